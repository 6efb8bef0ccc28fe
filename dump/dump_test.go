package dump_test

import (
	"fmt"
	"math"
	"slices"
	"strings"
	"testing"

	"edict/api"
	"edict/dump"
	"edict/engine"
)

// The examples

func TestExample2(t *testing.T) {
	want := magic + "\x02\x00\x00\x00" + "\x00\x00\x00\x00" + strings.Repeat("\x00", 16) + "\x70\x2E" + "\x61\xFF\x8D\xE6"
	if got := save(t, load(t, "p.", "")); got != want || len(got) != 38 {
		t.Errorf("Save = %x, want %x", got, want)
	}
	wantHead(t, want, "p.", "", 0)
	wantAlike(t, load(t, "p.", ""), open(t, want), run{nil, most, most})
}

// three is the engine of example 3.
func three(t *testing.T) *engine.Engine {
	e := load(t, rules, given)
	if out := e.Run([]int{1}, 1, most); out.Steps != 1 {
		t.Fatal("Run", out)
	}
	return e
}

func TestExamples3And4(t *testing.T) {
	want := magic + "\x0B\x00\x00\x00" + "\x0A\x00\x00\x00" + "\x01" + strings.Repeat("\x00", 7) + "\x02" + strings.Repeat("\x00", 7) + rules + given + "\x00\x01" + "\x62\xFD\xBF\x17"
	if got := save(t, three(t)); got != want || len(got) != 59 {
		t.Errorf("Save = %x, want %x", got, want)
	}
	wantHead(t, want, rules, given, 1)
	e := open(t, want)
	wantWords(t, "Facts", e.Facts(), "p(a)", "p(b)", "q(b)")
	if log := e.Log(); len(log) != 1 || log[0].Rule != 0 || log[0].Subst[0].Text != "b" || !log[0].Fresh {
		t.Errorf("Log = %v", log)
	}
	if left := e.Eligible(); len(left) != 1 || left[0].Rule != 0 || len(left[0].Subst) != 1 || left[0].Subst[0].Text != "a" {
		t.Errorf("Eligible = %v", left)
	}
}

func TestExample5(t *testing.T) {
	refused(t, form(rules, given, 1, "\x00\x02"), api.ErrForm, api.OK)
	refused(t, form(rules, given, 2, "\x00\x01\x00\x01"), api.ErrTrail, api.OK)
	refused(t, form(rules, given, 1, "\x00\x81\x00"), api.ErrForm, api.OK)
	refused(t, form(rules, given, 0, "\x00\x01"), api.ErrForm, api.OK)
	refused(t, form(rules, given, 2, "\x00\x01"), api.ErrForm, api.OK)
	refused(t, form(rules, given, 3, "\x00\x01"), api.ErrForm, api.ErrForm)
}

func TestExample6(t *testing.T) {
	refused(t, "", api.ErrMagic, api.ErrMagic)
	refused(t, "edict", api.ErrMagic, api.ErrMagic)
	refused(t, magic, api.ErrForm, api.ErrForm)
	refused(t, magic+strings.Repeat("\x00", 28), api.ErrSum, api.ErrSum)
	if got := dump.Sum(magic, strings.Repeat("\x00", 24)); got != 0x11D9E312 {
		t.Errorf("Sum = %#x", got)
	}
	open(t, magic+strings.Repeat("\x00", 24)+"\x12\xE3\xD9\x11") // the engine of no texts
}

func TestExample7(t *testing.T) {
	data := form("p", "", 0, "")
	refused(t, data, api.ErrEnd, api.OK)
	wantHead(t, data, "p", "", 0)
}

func TestExample8(t *testing.T) {
	if data, code := dump.Save(nil); data != "" || code != api.ErrState {
		t.Errorf("Save(nil) = %q, %d", data, code)
	}
}

// P20.2

// The engine is as it was, and goes on as if nothing had been asked.
func TestSaveChangesNothing(t *testing.T) {
	e, other := load(t, ways, ""), load(t, ways, "")
	for range 20 {
		before := seen(e)
		if first, second := save(t, e), save(t, e); first != second {
			t.Fatalf("Save = %x, and then %x", first, second)
		}
		if after := seen(e); after != before {
			t.Fatalf("behind Save it is %s, was %s", after, before)
		}
		if got, want := e.Run([]int{-1}, 1, most), other.Run([]int{-1}, 1, most); got != want {
			t.Fatalf("behind Save a run is %v, want %v", got, want)
		}
	}
}

// Budgets, picks, refused steps, forks and what was before a Reset leave no trace.
func TestSaveSeesTextsAndLogAlone(t *testing.T) {
	one, parts, back := load(t, ways, ""), load(t, ways, ""), load(t, ways, "")
	one.Run(nil, 5, most)
	parts.Run([]int{6, 12, 500}, 2, 100)
	parts.Run(nil, 0, 1)
	parts.Run(nil, 9, 8)
	parts = parts.Fork()
	parts.Run([]int{-60}, 2, 66)
	back.Run([]int{3, 1, 2}, most, most)
	back.Reset()
	back.Run(nil, 5, most)
	want := save(t, one)
	for num, e := range []*engine.Engine{parts, back, one.Fork(), open(t, want)} {
		if got := save(t, e); got != want {
			t.Errorf("engine %d: Save = %x, want %x", num, got, want)
		}
	}
	other := load(t, ways, "")
	other.Run([]int{1}, 5, most)
	if save(t, other) == want {
		t.Error("other steps have the same bytes")
	}
	if save(t, load(t, ways+" ", "")) == save(t, load(t, ways, "")) || save(t, load(t, ways, "")) == save(t, load(t, ways, " ")) {
		t.Error("other texts have the same bytes")
	}
}

// The texts are told byte by byte, comments and line ends too.
func TestTextsAsTheyAre(t *testing.T) {
	src, facts := "% \xFF\x00 edict\x01\r\n /* */\r\n q(X) :- p(X). ", "p(\"\xE4\"). /* \x80 */ p(a).\n\n"
	e := load(t, src, facts)
	e.Run(nil, 1, most) // the name a, though the text came ahead of it
	data := save(t, e)
	if want := form(src, facts, 1, "\x00\x01"); data != want {
		t.Errorf("Save = %q, want %q", data, want)
	}
	x := open(t, data)
	if gotSrc, gotFacts := x.Texts(); gotSrc != src || gotFacts != facts {
		t.Errorf("Texts = %q, %q", gotSrc, gotFacts)
	}
	wantHead(t, data, src, facts, 1)
}

// numerous is a program's text with so many rules, and a facts' text with so many constants; its last rule is the one that can fire, with its last constant.
func numerous(rules int, consts int) (string, string) {
	src := strings.Repeat("q(X) :- r(X).", rules-1) + "q(X) :- p(X)."
	var facts strings.Builder
	for num := range consts - 1 {
		fmt.Fprintf(&facts, "%s%d", map[bool]string{true: "k(", false: ","}[num%8 == 0], num)
		if num%8 == 7 {
			facts.WriteString(").")
		}
	}
	for num := consts - 1; num%8 != 0; num++ {
		facts.WriteString(",0")
		if num%8 == 7 {
			facts.WriteString(").")
		}
	}
	return src, facts.String() + "p(z)."
}

func TestShortNumbers(t *testing.T) {
	for _, c := range []struct {
		rules  int
		consts int
		steps  string
	}{
		{1, 1, "\x00\x00"}, {1, 2, "\x00\x01"}, {128, 128, "\x7F\x7F"}, {129, 129, "\x80\x01\x80\x01"}, {130, 256, "\x81\x01\xFF\x01"}, {257, 257, "\x80\x02\x80\x02"},
		{512, 301, "\xFF\x03\xAC\x02"}, {2, 8192, "\x01\xFF\x3F"}, {3, 8193, "\x02\x80\x40"}, {1, 10001, "\x00\x90\x4E"},
	} {
		src, facts := numerous(c.rules, c.consts)
		e := load(t, src, facts)
		if out := e.Run(nil, 9, most); out.Stop != api.Done || out.Steps != 1 || e.Info().Consts != c.consts || e.Info().Rules != c.rules {
			t.Fatal(out, e.Info())
		}
		data := save(t, e)
		if want := form(src, facts, 1, c.steps); data != want {
			t.Errorf("%d rules, %d constants: Save ends in %x, want %x", c.rules, c.consts, data[len(data)-12:], want[len(want)-12:])
		}
		x := open(t, data)
		if save(t, x) != data || !slices.EqualFunc(x.Log(), e.Log(), func(a, b api.Firing) bool { return fmt.Sprint(a) == fmt.Sprint(b) }) {
			t.Errorf("%d rules, %d constants: not opened so: %v", c.rules, c.consts, x.Log())
		}
	}
}

// wide is a program's text and a facts' text with more constants than two bytes of a short number can tell: the last two are -1 and -2.
func wide() (string, string) {
	const letters = "abcdefghijklmnopqrstuvwxyz"
	const others = letters + "ABCDEFGHIJKLMNOPQRSTUVWXYZ0123456789_"
	var words []string
	for _, a := range letters {
		for _, b := range others {
			words = append(words, string(a)+string(b))
		}
	}
	for _, a := range letters[:13] { // so the word not is not among them
		for _, b := range others {
			for _, c := range others {
				words = append(words, string(a)+string(b)+string(c))
			}
		}
	}
	var src, facts strings.Builder
	for num := 0; num < 3200; num += 8 {
		fmt.Fprintf(&src, "k(%d,%d,%d,%d,%d,%d,%d,%d).", num, num+1, num+2, num+3, num+4, num+5, num+6, num+7)
	}
	for num := 0; num < 13600; num += 8 {
		fmt.Fprintf(&facts, "k(%s).", strings.Join(words[num:num+8], ","))
	}
	return src.String() + "q(X):-p(X).", facts.String() + "p(-1).p(-2)."
}

// Texts may have more than 16384 constants: then ids take three bytes.
func TestShortNumbersOfThreeBytes(t *testing.T) {
	src, facts := wide()
	e := load(t, src, facts)
	count := e.Info().Consts
	if count <= 16386 {
		t.Fatalf("only %d constants", count)
	}
	e.Run([]int{1, 0}, 2, most) // -2 is ahead of -1
	short := func(n int) string {
		return string([]byte{byte(n&127 | 128), byte(n>>7&127 | 128), byte(n >> 14)})
	}
	data := save(t, e)
	if want := form(src, facts, 2, "\x00"+short(count-2)+"\x00"+short(count-1)); data != want {
		t.Errorf("Save ends in %x, want %x", data[len(data)-20:], want[len(want)-20:])
	}
	wantWords(t, "Facts", open(t, data).Facts()[len(e.Facts())-2:], "q(-1)", "q(-2)")
	for _, n := range []int{count, math.MaxUint16, 1 << 16, 2097151} {
		refused(t, form(src, facts, 1, "\x00"+short(n)), api.ErrForm, api.OK)
	}
	refused(t, form(src, facts, 1, "\x00"+short(1<<14)), api.ErrTrail, api.OK) // it has just as many bytes as it needs
	refused(t, form(src, facts, 1, "\x00"+short(count - 2)[:2]+"\x80\x01"), api.ErrForm, api.OK)
	refused(t, form(src, facts, 1, "\x00\xFF\x7F\x00"), api.ErrForm, api.OK)
	refused(t, form(src, facts, 1, "\x00\xFF\xFF\x00"), api.ErrForm, api.OK)
}

// P20.5: a long log, with acts of all strata that come and go while others fire.
func TestLongLog(t *testing.T) {
	facts := ""
	for from := range 24 {
		for to := range 24 {
			if (from*7+to*3)%5 == 0 && from != to {
				facts += fmt.Sprintf("edge(%d, %d). ", from, to)
			}
		}
	}
	e := load(t, ways, facts)
	picks := []int{}
	for num := range 3000 {
		picks = append(picks, num*num*31-900)
	}
	e.Run(picks, most, most)
	data := save(t, e)
	x := open(t, data)
	if len(e.Log()) < 1200 || save(t, x) != data || x.Model() != e.Model() || len(x.Eligible()) != 0 {
		t.Errorf("%d steps are not opened as they were saved", len(e.Log()))
	}
}
