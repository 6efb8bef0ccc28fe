package dump_test

import (
	"math"
	"strings"
	"testing"

	"edict/api"
	"edict/dump"
	"edict/engine"
)

// P20.3 and P20.4: what is refused, and why.

func TestNoMagic(t *testing.T) {
	good := save(t, three(t))
	for cut := range len(magic) {
		refused(t, magic[:cut], api.ErrMagic, api.ErrMagic)
		for with := range 256 {
			if byte(with) != magic[cut] {
				other := magic[:cut] + string([]byte{byte(with)}) + magic[cut+1:]
				refused(t, other, api.ErrMagic, api.ErrMagic)
				refused(t, summed(other+good[len(magic):len(good)-4]), api.ErrMagic, api.ErrMagic)
			}
		}
	}
	refused(t, " "+good, api.ErrMagic, api.ErrMagic)
	refused(t, good[1:], api.ErrMagic, api.ErrMagic)
	refused(t, strings.ReplaceAll(good, "\r\n", "\n"), api.ErrMagic, api.ErrMagic)
	refused(t, strings.ReplaceAll(good, "\n", "\r\n"), api.ErrMagic, api.ErrMagic)
}

// Fewer than 36 bytes are none of a saved engine, whether there is a sum or not.
func TestTooShort(t *testing.T) {
	for size := range 28 {
		refused(t, magic+strings.Repeat("\x00", size), api.ErrForm, api.ErrForm)
		if size >= 4 {
			refused(t, summed(magic+strings.Repeat("\x00", size-4)), api.ErrForm, api.ErrForm)
		}
	}
	open(t, summed(magic+strings.Repeat("\x00", 24)))
}

// A sum that is not right is told ahead of all that it is the sum of.
func TestSumAheadOfTheRest(t *testing.T) {
	for _, data := range []string{
		form("p.", "", 0, ""), form("p", "", 0, ""), form(strings.Repeat(" ", api.MaxSource+1), "", 0, ""), form("p:-q.", "", 1, "\x09"), form("p:-q.", "", 1, "\x00"),
		numbered(3, 0, 0, 0, "p."), numbered(math.MaxUint32, math.MaxUint32, most, most, "p."), summed(magic + strings.Repeat("\x00", 24)), summed(magic + strings.Repeat("\xFF", 24)),
	} {
		body, sum := data[:len(data)-4], data[len(data)-4:]
		for _, bad := range []string{
			body + sum[1:] + sum[:1], body + sum[3:] + sum[2:3] + sum[1:2] + sum[:1], body + "\x00\x00\x00\x00", body + low(uint64(^plainSum(body)), 4), body + low(uint64(plainSum(body)+1), 4),
			body + low(uint64(plainSum(body[8:])), 4), data + "\x00", data + sum, body + "\x00" + sum,
		} {
			refused(t, bad, api.ErrSum, api.ErrSum)
		}
	}
}

func TestTextsTooLong(t *testing.T) {
	long, longer := strings.Repeat(" ", api.MaxSource), strings.Repeat(" ", api.MaxSource+1)
	for _, c := range []struct{ src, facts string }{{long, ""}, {"", long}, {long, long}, {"p." + long[2:], "q." + long[2:]}} {
		data := form(c.src, c.facts, 0, "")
		if got := save(t, open(t, data)); got != data {
			t.Error("texts as long as may be are not saved as they were opened")
		}
		wantHead(t, data, c.src, c.facts, 0)
	}
	for _, c := range []struct{ src, facts string }{{longer, ""}, {"", longer}, {longer, longer}, {longer, "p"}, {"p", longer}, {longer + longer, ""}} {
		refused(t, form(c.src, c.facts, 0, ""), api.ErrForm, api.ErrForm)
	}
}

func TestNumbersThatDoNotFit(t *testing.T) {
	all := rules + given + "\x00\x01"
	src, facts := len(rules), len(given)
	wantHead(t, numbered(src, facts, 1, 2, all), rules, given, 1)
	for _, data := range []string{
		numbered(src+1, facts, 1, 2, all), numbered(src-1, facts, 1, 2, all), numbered(src, facts+1, 1, 2, all), numbered(src, facts-1, 1, 2, all), numbered(src, facts, 1, 3, all), numbered(src, facts, 1, 1, all),
		numbered(src, facts, 1, 2, all+" "), numbered(src, facts, 1, 2, all[:len(all)-1]), numbered(src, facts, 1, 2, ""), numbered(0, 0, 0, 0, all), numbered(0, 0, 0, 0, " "),
		numbered(src+facts+3, 0, 0, 0, all), numbered(0, src+facts+3, 0, 0, all), numbered(0, 0, 0, 24, all), numbered(1, 0, 0, 0, ""), numbered(0, 1, 0, 0, ""), numbered(0, 0, 0, 1, ""), numbered(1, 1, 0, 0, " "),
		numbered(math.MaxUint32, 0, 1, 2, all), numbered(0, math.MaxUint32, 1, 2, all), numbered(src, facts, 1, most, all), numbered(src, facts, most, most, all), numbered(src, facts, 1, 1<<63, all),
		// These fill it if numbers wrap round.
		numbered(2, 0, 0, most-1, ""), numbered(0, 2, 0, most-1, ""), numbered(1, 1, 0, most-1, ""), numbered(src+facts+3, 0, 0, most, all), numbered(src+1, facts, 1, 1<<32+1, all), numbered(5, 0, 0, 1<<32-5, ""),
		numbered(math.MaxUint32, 1, 0, 0, ""), numbered(1, math.MaxUint32, 0, 0, ""), numbered(1<<31, 1<<31, 0, 0, ""),
		// More steps than bytes.
		numbered(src, facts, 3, 2, all), numbered(src, facts, 1<<32+1, 2, all), numbered(src, facts, 1<<63, 2, all), numbered(src, facts, most, 2, all), numbered(src, facts, 1<<63+1, 2, all), numbered(0, 0, 1, 0, ""), numbered(2, 0, 1, 0, "p."),
	} {
		refused(t, data, api.ErrForm, api.ErrForm)
	}
	// Numbers may cut the bytes elsewhere: then they are other texts.
	wantHead(t, numbered(src-1, facts+1, 2, 2, all), rules[:src-1], rules[src-1:]+given, 2)
	wantHead(t, numbered(0, 0, 23, 23, all), "", "", 23)
	wantHead(t, numbered(0, 23, 0, 0, all), "", all, 0)
}

// Load's faults, of whatever kind, ahead of what is wrong with the steps.
func TestLoadsFaults(t *testing.T) {
	many := strings.Repeat("p. ", api.MaxClauses+1)
	for _, c := range []struct {
		src   string
		facts string
		want  api.Errno
	}{
		{"?", "", api.ErrByte}, {"p(\"", "", api.ErrQuote}, {"", "p(\"\\q\").", api.ErrEscape}, {"", "p(99999999999999999999).", api.ErrInt}, {"/*", "", api.ErrComment}, {"p :- .", "", api.ErrSyntax}, {"", "p(X).", api.ErrSyntax}, {"p", "", api.ErrEnd}, {"p.", "q(", api.ErrEnd},
		{"p(1,2,3,4,5,6,7,8,9).", "", api.ErrArity}, {"p:-" + strings.Repeat("q,", 16) + "q.", "", api.ErrBody}, {many, "", api.ErrClauses}, {"p.", "p(1).", api.ErrClash}, {"p(X).", "", api.ErrRange}, {"p:-not p.", "", api.ErrStrata}, {"p :- q(X), not r(Y), not p.", "", api.ErrRange},
	} {
		for _, steps := range []string{"", "\x00", "\x00\x81\x00", "\xFF\xFF\xFF\xFF"} {
			data := form(c.src, c.facts, len(steps)/2, steps)
			refused(t, data, c.want, api.OK)
			wantHead(t, data, c.src, c.facts, len(steps)/2)
		}
		refused(t, form(c.src, c.facts, 2, "\x00"), api.ErrForm, api.ErrForm)
	}
}

// What may not be in the bytes of the steps. (A rule of this text has no variable, one has two.)
func TestBrokenSteps(t *testing.T) {
	const src, facts = "p:-q. r(X,Y):-s(X,Y).", "q. s(a,b). s(b,c)."
	for _, c := range []struct {
		count int
		steps string
	}{
		{0, "\x00"}, {0, "\x80"}, {1, "\x00\x00"}, {1, "\x00\x01\x00\x01"}, {2, "\x00\x01\x00\x01\x00"}, {2, "\x01\x00\x01\x00\x80"}, // left over
		{1, "\x01"}, {1, "\x01\x00"}, {2, "\x00\x01\x00"}, {2, "\x00\x01"}, {1, "\x80"}, {1, "\x01\x81"}, {1, "\x01\x00\x80"}, {1, "\x01\x00\x80\x80"}, {2, "\x01\x00\x01"}, // cut off
		{1, "\x80\x00"}, {1, "\x80\x80\x00"}, {1, "\x01\x80\x00\x01"}, {1, "\x01\x00\x81\x00"}, {1, "\x01\x00\x81\x80\x00"}, {1, "\x81\x00\x00\x01"}, // more than is needed
		{1, "\x80\x80\x80\x00"}, {1, "\x80\x80\x80\x01"}, {1, "\x01\x00\x81\x80\x80\x00"}, {1, "\xFF\xFF\xFF\x7F"}, {1, strings.Repeat("\x80", 20)}, {1, strings.Repeat("\xFF", 20) + "\x01"}, // too many bytes
		{1, "\x02"}, {1, "\x02\x00\x01"}, {1, "\x7F"}, {1, "\x80\x01"}, {1, "\xFF\xFF\x7F"}, {2, "\x00\x03"}, {1, "\x80\x02"}, {1, "\x80\x80\x01"}, {1, "\x80\x80\x02"}, // no rule
		{1, "\x01\x03\x00"}, {1, "\x01\x00\x03"}, {1, "\x01\x00\x7F"}, {1, "\x01\x00\x80\x01"}, {1, "\x01\x00\xFF\xFF\x7F"}, {1, "\x01\x81\x02\x01"}, {1, "\x01\x00\x81\x80\x04"}, // no constant
		// ahead of a step that could not have been taken
		{2, "\x00\x00\x00"}, {3, "\x00\x00\x80"}, {2, "\x01\x00\x00\x02"}, {2, "\x01\x02\x02\x01\x00\x03"}, {2, "\x01\x00\x00"}, {1, "\x01\x00\x00\x00"},
	} {
		data := form(src, facts, c.count, c.steps)
		refused(t, data, api.ErrForm, api.OK)
		wantHead(t, data, src, facts, c.count)
	}
	for _, c := range []struct {
		count int
		steps string
	}{{0, ""}, {1, "\x00"}, {1, "\x01\x00\x01"}, {2, "\x00\x01\x01\x02"}, {3, "\x01\x01\x02\x00\x01\x00\x01"}} {
		data := form(src, facts, c.count, c.steps)
		if save(t, open(t, data)) != data {
			t.Errorf("steps %q are not saved as they were opened", c.steps)
		}
	}
	refused(t, form("p.", "", 1, "\x00"), api.ErrForm, api.OK)              // no rules
	refused(t, form("p(X):-q(X).", "", 1, "\x00\x00"), api.ErrForm, api.OK) // no constants
	refused(t, form("", "", 1, "\x00"), api.ErrForm, api.OK)
}

func TestStepsThatCouldNotBeTaken(t *testing.T) {
	// By id: a, b, c; the acts of rule 0 and 1 are of stratum 0, those of rule 2 of stratum 1, rule 3 of stratum 2.
	const src, facts = "e(a,b). e(b,c). e(c,a). t(X,Y):-e(X,Y). t(X,Z):-t(X,Y),e(Y,Z),X!=Z. s(X):-n(X),not t(X,c). u:-n(X),not s(X).", "n(a). n(b)."
	first := "\x00\x00\x01" + "\x00\x01\x02" + "\x00\x02\x00"              // e's three
	second := "\x01\x00\x01\x02" + "\x01\x01\x02\x00" + "\x01\x02\x00\x01" // and what they come to: all but t(X, X)
	last := "\x03\x00" + "\x03\x01"
	all := first + second + last
	data := form(src, facts, 8, all)
	if x := open(t, data); save(t, x) != data || len(x.Eligible()) != 0 {
		t.Fatal("the steps that lead to rest are not taken")
	}
	for _, c := range []struct {
		count int
		steps string
	}{
		{1, "\x00\x00\x00"}, {1, "\x00\x01\x00"}, {1, "\x00\x00\x02"}, // no such fact
		{1, "\x01\x00\x01\x02"}, {2, "\x00\x01\x02\x01\x00\x01\x02"}, // not yet
		{4, first + "\x01\x01\x02\x01"}, {5, first + "\x01\x00\x01\x02\x01\x00\x02\x00"}, // the test fails
		{2, "\x00\x00\x01\x00\x00\x01"}, {4, first + "\x00\x01\x02"}, {9, all + "\x00\x00\x01"}, {9, all + "\x03\x00"}, // has fired
		{1, "\x02\x01"}, {1, "\x02\x00"}, {1, "\x03\x00"}, {4, first + "\x02\x00"}, {5, first + second[:4] + "\x03\x01"}, {6, first + second[:8] + "\x03\x00"}, // what is below still goes on
		{7, first + second + "\x02\x00"}, {7, first + second + "\x02\x01"}, {7, first + second + "\x02\x02"}, {7, first + second + "\x03\x02"}, // what it negates is there, or a fact is not
		{8, all[:len(all)-2] + "\x03\x00"}, {8, second + first + last}, {8, last + first + second},
	} {
		data := form(src, facts, c.count, c.steps)
		refused(t, data, api.ErrTrail, api.OK)
		wantHead(t, data, src, facts, c.count)
	}
}

// The heads of steps that bring nothing new, and facts given that are heads too.
func TestStepsThatBringNothing(t *testing.T) {
	const src, facts = "p:-q(X). p:-r. q(X):-q(X).", "q(a). q(b). r. p."
	steps := "\x02\x01" + "\x01" + "\x00\x01" + "\x00\x00" + "\x02\x00"
	x := open(t, form(src, facts, 5, steps))
	wantWords(t, "Facts", x.Facts(), "q(a)", "q(b)", "r", "p")
	for num, step := range x.Log() {
		if step.Fresh {
			t.Errorf("step %d is fresh", num)
		}
	}
	if len(x.Log()) != 5 || len(x.Eligible()) != 0 {
		t.Errorf("Log = %v, Eligible = %v", x.Log(), x.Eligible())
	}
}

// Without steps nothing is asked about matches: here they are more than can be counted.
func TestNoStepsOfVeryManyMatches(t *testing.T) {
	src := "p:-"
	for num := range api.MaxBody {
		src += "q(" + string(rune('A'+num)) + "),"
	}
	src = src[:len(src)-1] + "."
	facts := ""
	for num := range 20 {
		facts += "q(" + string(rune('a'+num)) + ")."
	}
	data := form(src, facts, 0, "")
	if got := save(t, open(t, data)); got != data {
		t.Errorf("Save = %q, want %q", got, data)
	}
	refused(t, form(src, facts, 1, strings.Repeat("\x00", 16)), api.ErrForm, api.OK)
}

// P20.6

func TestCutOff(t *testing.T) {
	e := load(t, ways, "")
	e.Run([]int{4, 2, 0, -1}, 9, most)
	for _, data := range []string{save(t, three(t)), save(t, e), save(t, load(t, "", "")), save(t, load(t, "p.", ""))} {
		for cut := range len(data) {
			want := api.ErrSum
			switch {
			case cut < 8:
				want = api.ErrMagic
			case cut < 36:
				want = api.ErrForm
			}
			refused(t, data[:cut], want, want)
		}
	}
}

// Bytes cut off where their own sum stands by chance: the numbers tell that something is missing.
func TestCutOffBehindASum(t *testing.T) {
	for num := range 50 {
		ahead := "p. " + strings.Repeat(" ", num) + "/*"
		const behind = "*/ q:-p."
		body := magic + low(uint64(len(ahead)+4+len(behind)), 4) + low(0, 4) + low(uint64(num%2), 8) + low(uint64(num%2), 8) + ahead
		src := ahead + low(uint64(plainSum(body)), 4) + behind
		data := form(src, "", num%2, strings.Repeat("\x00", num%2))
		open(t, data)
		cut := data[:len(magic)+24+len(ahead)+4]
		if dump.Sum(cut) != 0x2144DF1C {
			t.Fatal("the sum does not stand where the bytes are cut")
		}
		refused(t, cut, api.ErrForm, api.ErrForm)
	}
}

func TestOneByteIsAnother(t *testing.T) {
	for _, e := range []*engine.Engine{three(t), load(t, "", "")} {
		data := save(t, e)
		for at := range len(data) {
			want := api.ErrSum
			if at < 8 {
				want = api.ErrMagic
			}
			for with := range 256 {
				if byte(with) != data[at] {
					refused(t, data[:at]+string([]byte{byte(with)})+data[at+1:], want, want)
				}
			}
		}
	}
}
