package sym_test

import (
	"fmt"
	"math"
	"math/rand"
	"regexp"
	"slices"
	"strings"
	"testing"

	"edict/api"
	"edict/sym"
)

func num(n int64) api.Const   { return api.Const{Kind: api.KInt, Int: n} }
func name(s string) api.Const { return api.Const{Kind: api.KName, Text: s} }
func text(s string) api.Const { return api.Const{Kind: api.KText, Text: s} }

// oneByte is the 256 strings of one byte.
func oneByte() []string {
	var out []string
	for b := range 256 {
		out = append(out, string([]byte{byte(b)}))
	}
	return out
}

// P1 (sym)

func TestValidInteger(t *testing.T) {
	for _, n := range []int64{0, 5, -1, math.MinInt64, math.MaxInt64} {
		if !sym.Valid(num(n)) {
			t.Errorf("the integer %d is refused", n)
		}
	}
	for _, s := range []string{"x", "5", "\x00", " "} {
		if c := (api.Const{Kind: api.KInt, Int: 5, Text: s}); sym.Valid(c) {
			t.Errorf("%v is an integer with a text", c)
		}
	}
}

func TestValidName(t *testing.T) {
	longest := "a" + strings.Repeat("Z", api.MaxName-1)
	for _, s := range []string{"a", "z", "a_B9", "nothing", "no", "nott", "nOT", "a_", longest} {
		if !sym.Valid(name(s)) || !sym.IsName(s) {
			t.Errorf("the name %q is refused", s)
		}
	}
	for _, s := range []string{"", "A", "_", "_a", "9", "9a", "not", "a b", "a-b", "a.", "a\n", " a", "é", "aé", "a\x00", longest + "a"} {
		if sym.Valid(name(s)) || sym.IsName(s) {
			t.Errorf("%q is taken for a name", s)
		}
	}
	for _, n := range []int64{1, -1, math.MinInt64} {
		if sym.Valid(api.Const{Kind: api.KName, Int: n, Text: "a"}) {
			t.Errorf("a name with the Int %d is taken", n)
		}
	}
}

func TestValidText(t *testing.T) {
	for _, s := range append(oneByte(), "", "not", "\xc3\x28", strings.Repeat("\xff", api.MaxText)) {
		if !sym.Valid(text(s)) {
			t.Errorf("the text %q is refused", s)
		}
		for _, n := range []int64{1, -1, math.MaxInt64} {
			if sym.Valid(api.Const{Kind: api.KText, Int: n, Text: s}) {
				t.Errorf("the text %q with the Int %d is taken", s, n)
			}
		}
	}
	if sym.Valid(text(strings.Repeat("x", api.MaxText+1))) {
		t.Error("a text above MaxText is taken")
	}
}

func TestValidKind(t *testing.T) {
	for _, kind := range []int{0, api.KVar, 5, -1, 257, math.MinInt, math.MaxInt} {
		for _, s := range []string{"", "a", "X"} {
			if c := (api.Const{Kind: kind, Text: s}); sym.Valid(c) {
				t.Errorf("%v is taken for a constant", c)
			}
		}
	}
}

func TestWordsByteByByte(t *testing.T) {
	first := regexp.MustCompile(`^[a-z]$`)
	firstOfVar := regexp.MustCompile(`^[A-Z_]$`)
	later := regexp.MustCompile(`^[a-zA-Z0-9_]$`)
	for _, s := range oneByte() {
		if got := sym.IsName(s); got != first.MatchString(s) {
			t.Errorf("IsName(%q) = %v", s, got)
		}
		if got := sym.IsVar(s); got != firstOfVar.MatchString(s) {
			t.Errorf("IsVar(%q) = %v", s, got)
		}
		for _, tail := range []string{s, "a" + s, s + "a"} {
			if got := sym.IsName("b" + tail); got != later.MatchString(s) {
				t.Errorf("IsName(%q) = %v", "b"+tail, got)
			}
			if got := sym.IsVar("_" + tail); got != later.MatchString(s) {
				t.Errorf("IsVar(%q) = %v", "_"+tail, got)
			}
		}
	}
}

func TestIsVar(t *testing.T) {
	longest := "_" + strings.Repeat("9", api.MaxName-1)
	for _, s := range []string{"X", "_", "__", "_a", "_9", "Not", "Xa_9", longest} {
		if !sym.IsVar(s) {
			t.Errorf("the variable %q is refused", s)
		}
	}
	for _, s := range []string{"", "a", "x", "not", "9", "X Y", "X-", "É", longest + "9"} {
		if sym.IsVar(s) {
			t.Errorf("%q is taken for a variable", s)
		}
	}
}

// P2 (sym)

// ordered is a list of different Consts, valid or not, in their order.
func ordered() []api.Const {
	return []api.Const{
		{Kind: math.MinInt, Int: 9, Text: "z"},
		{Kind: -1},
		{Kind: 0, Text: "z"}, {Kind: 0, Int: 1}, {Kind: 0, Int: 1, Text: "a"},
		num(math.MinInt64), num(-3), {Kind: api.KInt, Int: -3, Text: "a"}, num(0), num(2), num(12), num(math.MaxInt64),
		{Kind: api.KName, Int: -1, Text: "z"}, name(""), name("Q"), name("a"), name("aB"), name("a_"), name("ab"), name("b"), {Kind: api.KName, Int: 1, Text: "a"},
		text(""), text("\x00"), text("A"), text("a"), text("a\x00"), text("ab"), text("b"), text("\x7f"), text("\x80"), text("\xff"),
		{Kind: api.KText, Int: 1},
		{Kind: api.KVar}, {Kind: api.KVar, Text: "X"},
		{Kind: math.MaxInt, Int: math.MinInt64},
	}
}

func TestCompare(t *testing.T) {
	list := ordered()
	for i, a := range list {
		for j, b := range list {
			want := 0
			if i < j {
				want = -1
			} else if i > j {
				want = 1
			}
			if got := sym.Compare(a, b); got != want {
				t.Errorf("Compare(%v, %v) = %d, want %d", a, b, got, want)
			}
		}
	}
}

func TestSort(t *testing.T) {
	want := ordered()
	want = slices.Insert(want, 9, want[8], want[8])
	want = append(want, want[len(want)-1])
	random := rand.New(rand.NewSource(1))
	for range 50 {
		given := slices.Clone(want)
		random.Shuffle(len(given), func(i, j int) { given[i], given[j] = given[j], given[i] })
		before := slices.Clone(given)
		if got := sym.Sort(given); !slices.Equal(got, want) {
			t.Fatalf("Sort(%v) = %v", before, got)
		}
		if !slices.Equal(given, before) {
			t.Fatal("Sort changed what it was given")
		}
	}
	if len(sym.Sort(nil)) != 0 || len(sym.Sort([]api.Const{})) != 0 {
		t.Error("Sort makes something of nothing")
	}
}

func TestSortIsNewMemory(t *testing.T) {
	for _, given := range [][]api.Const{{num(2), num(1), num(0)}, {num(1), num(2), num(0)}, {num(1), num(0)}, {num(0)}} {
		before := slices.Clone(given)
		part := given[:len(given)-1] // with spare room behind it
		got := sym.Sort(part)
		for i := range got {
			got[i] = name("w")
		}
		_ = append(got, name("x"), name("y"))
		if !slices.Equal(given, before) {
			t.Errorf("writing into what Sort answered changed %v to %v", before, given)
		}
	}
}

// P3 (sym)

func TestText(t *testing.T) {
	for _, c := range []struct {
		of   api.Const
		want string
	}{
		{num(0), "0"}, {num(7), "7"}, {num(-7), "-7"}, {num(100), "100"},
		{num(math.MaxInt64), "9223372036854775807"}, {num(math.MinInt64), "-9223372036854775808"},
		{name("a"), "a"}, {name("aB_0"), "aB_0"}, {name("nothing"), "nothing"},
		{text(""), `""`}, {text("not"), `"not"`}, {text("a\"b\\c"), `"a\"b\\c"`},
		{text("\x00\n\x7f\xc3"), `"\x00\n\x7f\xc3"`}, {text("\t\r ~"), `"\t\r ~"`},
		{text("é"), `"\xc3\xa9"`}, {text("'`"), "\"'`\""}, {text("\a\b\v\f"), `"\x07\x08\x0b\x0c"`},
	} {
		if got := sym.Text(c.of); got != c.want {
			t.Errorf("Text(%v) = %s, want %s", c.of, got, c.want)
		}
	}
}

func TestTextByteByByte(t *testing.T) {
	short := map[byte]string{'"': `\"`, '\\': `\\`, '\n': `\n`, '\t': `\t`, '\r': `\r`}
	all, wantAll := "", ""
	for b := range 256 {
		want, there := short[byte(b)]
		if !there && b >= 0x20 && b <= 0x7e {
			want = string(rune(b))
		} else if !there {
			want = fmt.Sprintf(`\x%02x`, b)
		}
		s := string([]byte{byte(b)})
		if got := sym.Text(text(s)); got != `"`+want+`"` {
			t.Errorf("the byte %#x is written %s", b, got)
		}
		if b != 'A' { // one of them left out: 255 bytes are all that a text may have
			all, wantAll = all+s, wantAll+want
		}
	}
	if got := sym.Text(text(all)); got != `"`+wantAll+`"` {
		t.Errorf("255 bytes are written %s", got)
	}
}

func TestTextOfNone(t *testing.T) {
	for _, c := range []api.Const{
		{}, {Kind: api.KInt, Int: 1, Text: "1"}, name("not"), name(""), name("A"), {Kind: api.KName, Int: 1, Text: "a"},
		{Kind: api.KText, Int: 1, Text: "a"}, text(strings.Repeat("a", api.MaxText+1)), {Kind: api.KVar, Text: "X"}, {Kind: 9, Text: "a"},
	} {
		if got := sym.Text(c); got != "" {
			t.Errorf("Text(%.40v) = %.40q", c, got)
		}
	}
}

func TestTextsDiffer(t *testing.T) {
	seen := map[string]api.Const{}
	list := []api.Const{num(1), num(-1), name("a"), text("a"), text("1"), text("-1"), text(`"a"`), text(`\n`), text("\n"), text(`\x00`), text("\x00"), text("")}
	for _, s := range oneByte() {
		list = append(list, text(s+"!"))
	}
	for _, c := range list {
		s := sym.Text(c)
		if other, there := seen[s]; there {
			t.Errorf("%v and %v are both written %s", c, other, s)
		}
		seen[s] = c
	}
}

// P4 (sym)

func TestReadBack(t *testing.T) {
	list := []api.Const{
		num(0), num(10), num(-10), num(math.MinInt64), num(math.MaxInt64), num(math.MinInt64 + 1),
		name("a"), name("nothing"), name("a" + strings.Repeat("_", api.MaxName-1)),
		text(""), text("not"), text("a\"b\\c"), text("\xc3\xa9"), text("é世"), text("\ufffd"), text("'"), text("`"),
		text(strings.Repeat("\x00", api.MaxText)), text(strings.Repeat("x", api.MaxText)), text(strings.Repeat("\"", api.MaxText)),
	}
	for _, s := range oneByte() {
		list = append(list, text(s), text(s+"a"), text("\\"+s), text(s+s))
	}
	for _, want := range list {
		if got, e := sym.Read(sym.Text(want)); got != want || e != api.OK {
			t.Errorf("Read(%s) = %v, %d", sym.Text(want), got, e)
		}
	}
}

func TestReadNone(t *testing.T) {
	for _, s := range []string{
		"", " ", "007", "00", "-0", "-00", "-01", "+1", "+0", "-", "--1", "1 ", " 1", "1_0", "0x1", "1e3", "1.0", "1a", "-a",
		"9223372036854775808", "-9223372036854775809", "99999999999999999999999999", "-99999999999999999999999999",
		"not", "X", "_", "_a", "a b", "a ", " a", "a\n", "a-", "é", "a\x00", "a" + strings.Repeat("a", api.MaxName),
		`"`, `"a`, `a"`, `"a"b"`, `"a" `, ` "a"`, `"a""b"`, `"\"`, `"\\\"`, `"\q"`, `"\a"`, `"\'"`, `"\0"`, `"\101"`, `"\u0041"`, `"\U00000041"`,
		`"\x"`, `"\x0"`, `"\x0g"`, `"\x7F"`, `"\xC3"`, `"\x41"`, `"\x20"`, `"\x0a"`, `"\x09"`, `"\x0d"`, `"\x22"`, `"\x5c"`, `"\X7f"`,
		"\"\n\"", "\"\t\"", "\"\x7f\"", "\"\x00\"", "\"é\"", "\"\xff\"", "'a'", "`a`", "'", "``",
		`"` + strings.Repeat("x", api.MaxText+1) + `"`, `"` + strings.Repeat(`\xff`, api.MaxText+1) + `"`,
	} {
		if got, e := sym.Read(s); got != (api.Const{}) || e != api.ErrConst {
			t.Errorf("Read(%.60q) = %v, %d", s, got, e)
		}
	}
}

// canonical tells by a rule of its own which short strings are canonical texts.
var canonical = regexp.MustCompile(`^(0|-?[1-9][0-9]*|[a-z][a-zA-Z0-9_]*|"([ !#-\[\]-~]|\\["\\ntr]|\\x(0[0-8bcef]|1[0-9a-f]|7f|[89a-f][0-9a-f]))*")$`)

// words gives all strings over an alphabet up to a length.
func words(alphabet string, length int, yield func(string)) {
	yield("")
	if length == 0 {
		return
	}
	for i := range len(alphabet) {
		words(alphabet, length-1, func(s string) { yield(alphabet[i:i+1] + s) })
	}
}

func TestReadAllShort(t *testing.T) {
	check := func(s string) {
		c, e := sym.Read(s)
		want := canonical.MatchString(s) && s != "not"
		if (e == api.OK) != want {
			t.Fatalf("Read(%q) = %v, %d", s, c, e)
		}
		if want && (!sym.Valid(c) || sym.Text(c) != s) {
			t.Fatalf("Read(%q) = %v, whose text is %q", s, c, sym.Text(c))
		}
		if !want && (c != api.Const{} || e != api.ErrConst) {
			t.Fatalf("Read(%q) = %v, %d", s, c, e)
		}
	}
	words("\"\\nx0a7-1", 5, check)
	words("notX_ ", 4, check)
	words("\\x0127adFfn\n\xff", 4, func(s string) { check(`"` + s + `"`) })
}

func FuzzRead(f *testing.F) {
	for _, s := range []string{"", "-0", "12", "not", `"\x7f\n"`, `"`, "'a'"} {
		f.Add(s)
	}
	f.Fuzz(func(t *testing.T, s string) {
		c, e := sym.Read(s)
		if e == api.OK && (!sym.Valid(c) || sym.Text(c) != s) {
			t.Errorf("Read(%q) = %v, whose text is %q", s, c, sym.Text(c))
		}
		if e != api.OK && (e != api.ErrConst || c != api.Const{}) {
			t.Errorf("Read(%q) = %v, %d", s, c, e)
		}
		if len(s) <= api.MaxText {
			if c, e := sym.Read(sym.Text(text(s))); c != text(s) || e != api.OK {
				t.Errorf("the text %q comes back as %v, %d", s, c, e)
			}
		}
	})
}
