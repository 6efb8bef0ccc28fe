package print_test

import (
	"math"
	"reflect"
	"slices"
	"strings"
	"sync"
	"testing"

	"edict/api"
	"edict/parse"
	"edict/print"
)

// Offsets are of no account: those of the things here are odd ones, and differ from thing to thing.

func num(n int64) api.Term { return api.Term{Kind: api.KInt, Int: n, Off: -7} }

func name(s string) api.Term { return api.Term{Kind: api.KName, Text: s, Off: math.MaxInt} }

func text(s string) api.Term { return api.Term{Kind: api.KText, Text: s, Off: math.MinInt} }

func variable(s string) api.Term { return api.Term{Kind: api.KVar, Text: s, Off: 3} }

func atom(pred string, args ...api.Term) api.Atom {
	return api.Atom{Pred: pred, Args: args, Off: len(pred) - 4}
}

func pos(a api.Atom) api.Literal { return api.Literal{Kind: api.LPos, Atom: a, Off: 1} }

func neg(a api.Atom) api.Literal { return api.Literal{Kind: api.LNeg, Atom: a, Off: -1} }

func test(op int, left, right api.Term) api.Literal {
	return api.Literal{Kind: api.LTest, Op: op, Left: left, Right: right, Off: 1 << 33}
}

func clause(head api.Atom, body ...api.Literal) api.Clause {
	return api.Clause{Head: head, Body: body}
}

func programOf(cs ...api.Clause) api.Program { return api.Program{Clauses: cs} }

func fact(pred string, args ...api.Term) api.Fact {
	f := api.Fact{Pred: pred}
	for _, t := range args {
		f.Args = append(f.Args, api.Const{Kind: t.Kind, Int: t.Int, Text: t.Text})
	}
	return f
}

// times is a list of the same thing so many times.
func times[T any](n int, x T) []T { return slices.Repeat([]T{x}, n) }

// short keeps a failed test's telling within bounds.
func short(s string) string {
	if len(s) > 80 {
		return s[:80] + ".."
	}
	return s
}

func want(t *testing.T, got, want string) {
	t.Helper()
	if got != want {
		t.Errorf("%q; want %q", short(got), short(want))
	}
}

func wantWell(t *testing.T, p api.Program, want api.Errno) {
	t.Helper()
	if got := print.Well(p); got != want {
		t.Errorf("Well(%.200v) = %d; want %d", p, got, want)
	}
}

// The examples of chapter 4, by their numbers.

func TestExamples(t *testing.T) {
	want(t, print.Atom(atom("p")), "p") // 1
	want(t, print.Atom(atom("p", variable("X"), num(3), text("a b"))), `p(X, 3, "a b")`)
	want(t, print.Literal(neg(atom("q", variable("_")))), "not q(_)") // 2
	odd := test(api.OpLe, name("a"), num(-5))
	want(t, print.Literal(odd), "a <= -5")
	odd.Atom.Pred = "q"
	want(t, print.Literal(odd), "")
	wantWell(t, programOf(clause(atom("p"), odd)), api.ErrArg)
	x := variable("X") // 3
	rule := print.Clause(clause(atom("h", x), pos(atom("q", x)), neg(atom("r", x)), test(api.OpNe, x, num(3))))
	want(t, rule, "h(X) :- q(X), not r(X), X != 3.")
	two := print.Program(programOf(clause(atom("p", name("a"))), clause(atom("q"), pos(atom("p", x))))) // 4
	want(t, two, "p(a).\nq :- p(X).\n")
	if len(rule) != 31 || len(two) != 6+11 {
		t.Errorf("%d and %d bytes", len(rule), len(two))
	}
	want(t, print.Query([]api.Literal{pos(atom("b")), neg(atom("c"))}), "b, not c.") // 5
	want(t, print.Query(nil), "")
	nine := make([]api.Term, 9) // 6
	wantWell(t, programOf(clause(atom("P", nine...))), api.ErrName)
	wantWell(t, programOf(clause(atom("p", nine...))), api.ErrArity)
	wantWell(t, programOf(clause(atom("p", nine[:8]...))), api.ErrConst)
	strange := times(17, api.Literal{Kind: 9}) // 7
	wantWell(t, programOf(clause(atom("h", variable("x")), strange...)), api.ErrName)
	wantWell(t, programOf(clause(atom("h", x), strange...)), api.ErrBody)
	wantWell(t, programOf(clause(atom("h", x), strange[:16]...)), api.ErrArg)
	left := pos(atom("q")) // 8
	left.Left = api.Term{Off: 7}
	want(t, print.Literal(left), "q")
	wantWell(t, programOf(clause(atom("p"), left)), api.OK)
	left.Left = api.Term{Kind: api.KInt}
	want(t, print.Literal(left), "")
	wantWell(t, programOf(clause(atom("p"), left)), api.ErrArg)
	want(t, print.Term(text("a\n\"")), `"a\n\""`)                                 // 9
	want(t, print.Facts([]api.Fact{fact("p", num(1)), fact("q")}), "p(1).\nq.\n") // 10
	want(t, print.Facts([]api.Fact{fact("p", num(1)), {Pred: "Q"}}), "")
}

// P1: what is well formed.

// wrong: the literal, alone in a body, is refused with this reason, wherever it stands, and has no text.
func wrong(t *testing.T, l api.Literal, reason api.Errno) {
	t.Helper()
	fine := pos(atom("q"))
	for at := range 3 {
		body := times(3, fine)
		body[at] = l
		wantWell(t, programOf(clause(atom("p")), clause(atom("p"), body...)), reason)
		want(t, print.Query(body), "")
		want(t, print.Clause(clause(atom("p"), body...)), "")
	}
	want(t, print.Literal(l), "")
}

func TestLiteralsOfNoKind(t *testing.T) {
	for _, kind := range []int{math.MinInt, -1, 0, 4, 5, math.MaxInt} {
		l := pos(atom("P", times(9, api.Term{})...)) // whatever else is wrong, its kind comes first
		l.Kind = kind
		wrong(t, l, api.ErrArg)
	}
}

// Beside an atom nothing of a test may stand, and that comes ahead of the atom itself.
func TestAtomsWithATest(t *testing.T) {
	for _, odd := range []func(l *api.Literal){
		func(l *api.Literal) { l.Op = api.OpEq }, func(l *api.Literal) { l.Op = -1 }, func(l *api.Literal) { l.Op = math.MaxInt },
		func(l *api.Literal) { l.Left.Kind = api.KInt }, func(l *api.Literal) { l.Left.Int = 1 }, func(l *api.Literal) { l.Left.Text = "a" },
		func(l *api.Literal) { l.Right.Kind = -1 }, func(l *api.Literal) { l.Right.Int = math.MinInt64 }, func(l *api.Literal) { l.Right.Text = "\x00" },
	} {
		for _, l := range []api.Literal{pos(atom("q")), neg(atom("q")), pos(atom("Q")), neg(atom(""))} {
			odd(&l)
			wrong(t, l, api.ErrArg)
		}
	}
	for _, l := range []api.Literal{pos(atom("q", num(1))), neg(atom("q", num(1)))} {
		l.Left.Off, l.Right.Off = 5, -5
		if print.Literal(l) == "" {
			t.Error("an offset beside an atom makes it none")
		}
	}
	wrong(t, pos(atom("Q")), api.ErrName)
	wrong(t, neg(atom("Q", times(9, api.Term{})...)), api.ErrName)
	wrong(t, pos(atom("q", times(9, api.Term{})...)), api.ErrArity)
	wrong(t, neg(atom("q", num(1), api.Term{}, variable("x"))), api.ErrConst)
	wrong(t, pos(atom("q", num(1), variable("x"), api.Term{})), api.ErrName)
}

// Beside a test no atom may stand, and that comes ahead of its terms; so does a comparison that is none.
func TestTestsThatAreNone(t *testing.T) {
	for _, op := range []int{math.MinInt, -1, 0, 7, 8, math.MaxInt} {
		wrong(t, test(op, num(1), num(2)), api.ErrArg)
		wrong(t, test(op, variable("x"), num(2)), api.ErrArg)
	}
	for _, a := range []api.Atom{{Pred: "q"}, {Pred: "\x00"}, {Args: []api.Term{num(1)}}, {Args: make([]api.Term, 1)}} {
		l := test(api.OpLt, variable("x"), api.Term{})
		l.Atom = a
		wrong(t, l, api.ErrArg)
		l.Left, l.Right = num(1), num(2)
		wrong(t, l, api.ErrArg)
	}
	l := test(api.OpLt, num(1), num(2))
	l.Atom = api.Atom{Args: []api.Term{}, Off: 12}
	want(t, print.Literal(l), "1 < 2")
	wrong(t, test(api.OpGe, variable("x"), name("X")), api.ErrName)
	wrong(t, test(api.OpGe, name("X"), variable("x")), api.ErrConst)
	wrong(t, test(api.OpGe, num(1), variable("x")), api.ErrName)
	wrong(t, test(api.OpGe, num(1), name("X")), api.ErrConst)
}

// wrongTerm: the term is refused with this reason, wherever a term may stand, and has no text.
func wrongTerm(t *testing.T, x api.Term, reason api.Errno) {
	t.Helper()
	wantWell(t, programOf(clause(atom("p", num(1), x))), reason)
	wrong(t, pos(atom("p", x)), reason)
	wrong(t, neg(atom("p", variable("X"), x, num(1))), reason)
	wrong(t, test(api.OpEq, x, num(1)), reason)
	wrong(t, test(api.OpEq, num(1), x), reason)
	want(t, print.Term(x), "")
	want(t, print.Atom(atom("p", num(1), x)), "")
}

func TestTermsThatAreNone(t *testing.T) {
	long, longText := strings.Repeat("a", api.MaxName), strings.Repeat("\xff", api.MaxText)
	for _, s := range []string{"", "x", "not", "1", "X ", "X-", "é", "X\x00", "X" + long} {
		wrongTerm(t, variable(s), api.ErrName)
	}
	for _, n := range []int64{1, -1, math.MinInt64} {
		wrongTerm(t, api.Term{Kind: api.KVar, Int: n, Text: "X"}, api.ErrName)
		wrongTerm(t, api.Term{Kind: api.KName, Int: n, Text: "a"}, api.ErrConst)
		wrongTerm(t, api.Term{Kind: api.KText, Int: n, Text: "a"}, api.ErrConst)
	}
	for _, s := range []string{"", "X", "not", "_", "1", "a b", "a.", "é", long + "a"} {
		wrongTerm(t, name(s), api.ErrConst)
	}
	wrongTerm(t, text(longText+"a"), api.ErrConst)
	wrongTerm(t, api.Term{Kind: api.KInt, Int: 1, Text: "1"}, api.ErrConst)
	for _, kind := range []int{math.MinInt, -1, 0, 5, math.MaxInt} {
		wrongTerm(t, api.Term{Kind: kind}, api.ErrConst)
		wrongTerm(t, api.Term{Kind: kind, Text: "X"}, api.ErrConst)
	}
	want(t, print.Term(text(longText)), `"`+strings.Repeat(`\xff`, api.MaxText)+`"`)
	want(t, print.Term(name(long)), long)
	want(t, print.Term(variable("_"+long[1:])), "_"+long[1:])
}

func TestPredicatesThatAreNone(t *testing.T) {
	long := strings.Repeat("b", api.MaxName)
	for _, s := range []string{"", "P", "_", "not", "1", "p q", "p(1)", "p.", "p\n", "é", "\x00", long + "b"} {
		wrong(t, pos(atom(s)), api.ErrName)
		wrong(t, neg(atom(s)), api.ErrName)
		wantWell(t, programOf(clause(atom(s))), api.ErrName)
		want(t, print.Atom(atom(s)), "")
		want(t, print.Fact(fact(s)), "")
		want(t, print.Facts([]api.Fact{fact(s)}), "")
	}
	for _, s := range []string{"p", "nothing", "no_T9", "n", long} {
		want(t, print.Atom(atom(s)), s)
		want(t, print.Fact(fact(s)), s)
	}
}

func TestArityLimit(t *testing.T) {
	for n := range 12 {
		full := "p"
		if n > 0 {
			full = "p(" + strings.Repeat("1, ", n-1) + "1)"
		}
		reason, whole, line := api.OK, full, full+".\n"
		if n > api.MaxArity {
			reason, whole, line = api.ErrArity, "", ""
		}
		a := atom("p", times(n, num(1))...)
		wantWell(t, programOf(clause(a)), reason)
		wantWell(t, programOf(clause(atom("q"), pos(a), neg(a))), reason)
		want(t, print.Atom(a), whole)
		want(t, print.Literal(pos(a)), whole)
		want(t, print.Fact(fact("p", times(n, num(1))...)), whole)
		want(t, print.Facts([]api.Fact{fact("p", times(n, num(1))...)}), line)
		want(t, print.Program(programOf(clause(a))), line)
	}
}

func TestBodyLimit(t *testing.T) {
	for n := 1; n < 20; n++ {
		body := times(n, pos(atom("b")))
		reason, whole := api.OK, strings.Repeat("b, ", n-1)+"b."
		rule := "h :- " + whole
		if n > api.MaxBody {
			reason, whole, rule = api.ErrBody, "", ""
		}
		wantWell(t, programOf(clause(atom("h"), body...)), reason)
		want(t, print.Query(body), whole)
		want(t, print.Clause(clause(atom("h"), body...)), rule)
	}
	// each body counts for itself, and the last literal is looked at like the first
	full := times(api.MaxBody, neg(atom("b")))
	wantWell(t, programOf(times(9, clause(atom("h"), full...))...), api.OK)
	full[api.MaxBody-1] = neg(atom("B"))
	wantWell(t, programOf(clause(atom("h"), full...)), api.ErrName)
	want(t, print.Query(full), "")
}

func TestClauseLimit(t *testing.T) {
	fine, odd := clause(atom("p")), clause(atom("P"))
	wantWell(t, programOf(times(api.MaxClauses, fine)...), api.OK)
	wantWell(t, programOf(times(api.MaxClauses+1, fine)...), api.ErrClauses)
	wantWell(t, programOf(times(api.MaxClauses+1, odd)...), api.ErrClauses)
	wantWell(t, programOf(append(times(api.MaxClauses-1, fine), odd)...), api.ErrName)
	want(t, print.Program(programOf(times(api.MaxClauses, fine)...)), strings.Repeat("p.\n", api.MaxClauses))
	want(t, print.Program(programOf(times(api.MaxClauses+1, fine)...)), "")
	want(t, print.Program(programOf(append(times(api.MaxClauses-1, fine), odd)...)), "")
}

// P4 of DOC.md: of several reasons the one that the chapter names first; a thing further ahead comes ahead of one behind it.
func TestFirstReason(t *testing.T) {
	x := variable("X")
	badHead, badArity := atom("h", variable("x")), atom("h", times(9, x)...)
	seventeen := times(17, api.Literal{})
	wantWell(t, programOf(clause(badHead, seventeen...), clause(badArity)), api.ErrName)
	wantWell(t, programOf(clause(badArity, seventeen...), clause(badHead)), api.ErrArity)
	wantWell(t, programOf(clause(atom("h", x), seventeen...), clause(badHead)), api.ErrBody)
	wantWell(t, programOf(clause(atom("h"), api.Literal{}, pos(atom("P"))), clause(badHead)), api.ErrArg)
	wantWell(t, programOf(clause(atom("h"), pos(atom("P")), api.Literal{}), clause(badArity)), api.ErrName)
	wantWell(t, programOf(clause(atom("h", name("A"), x), pos(atom("P"))), clause(badArity)), api.ErrConst)
	wantWell(t, programOf(clause(atom("h", x)), clause(atom("h"), pos(badArity), neg(badHead))), api.ErrArity)
}

// What other layers ask about is nothing here.
func TestNotThisLayersBusiness(t *testing.T) {
	x, y := variable("X"), variable("Y")
	p := programOf(
		clause(atom("p", x)),
		clause(atom("p"), neg(atom("p", y, y)), test(api.OpLt, variable("_"), variable("_"))),
		clause(atom("p", times(8, variable("_"))...), test(api.OpEq, num(1), num(2))),
		clause(atom("p", x)))
	wantWell(t, p, api.OK)
	want(t, print.Program(p), "p(X).\np :- not p(Y, Y), _ < _.\np(_, _, _, _, _, _, _, _) :- 1 = 2.\np(X).\n")
}

// P2: the text.

func TestTerms(t *testing.T) {
	for _, c := range []struct {
		t    api.Term
		want string
	}{
		{variable("X"), "X"}, {variable("_"), "_"}, {variable("__"), "__"}, {variable("_x9"), "_x9"}, {variable("Not"), "Not"}, {name("a_B9"), "a_B9"}, {name("nota"), "nota"},
		{num(0), "0"}, {num(7), "7"}, {num(-7), "-7"}, {num(math.MaxInt64), "9223372036854775807"}, {num(math.MinInt64), "-9223372036854775808"},
		{text(""), `""`}, {text("not"), `"not"`}, {text("X"), `"X"`}, {text("7"), `"7"`}, {text(`a"b\c`), `"a\"b\\c"`}, {text("\x00\n\t\r\x7f\xc3é"), `"\x00\n\t\r\x7f\xc3\xc3\xa9"`}, {text("%/* , ."), `"%/* , ."`},
	} {
		want(t, print.Term(c.t), c.want)
		want(t, print.Atom(atom("p", c.t)), "p("+c.want+")")
		want(t, print.Literal(test(api.OpEq, c.t, c.t)), c.want+" = "+c.want)
		want(t, print.Clause(clause(atom("p", c.t, c.t))), "p("+c.want+", "+c.want+").")
		if c.t.Kind != api.KVar {
			want(t, print.Fact(fact("p", c.t, c.t)), "p("+c.want+", "+c.want+")")
		}
	}
}

func TestLiterals(t *testing.T) {
	x, y := variable("X"), name("y")
	want(t, print.Literal(pos(atom("p"))), "p")
	want(t, print.Literal(pos(atom("p", x, y))), "p(X, y)")
	want(t, print.Literal(neg(atom("p"))), "not p")
	want(t, print.Literal(neg(atom("p", x, y))), "not p(X, y)")
	for op, word := range map[int]string{api.OpEq: "=", api.OpNe: "!=", api.OpLt: "<", api.OpLe: "<=", api.OpGt: ">", api.OpGe: ">="} {
		want(t, print.Literal(test(op, x, y)), "X "+word+" y")
		want(t, print.Query([]api.Literal{test(op, text(""), num(-1))}), `"" `+word+" -1.")
	}
}

func TestClausesAndQueries(t *testing.T) {
	a, b, c := pos(atom("a")), neg(atom("b", num(1))), test(api.OpGt, num(2), variable("X"))
	for _, x := range []struct {
		body []api.Literal
		want string
	}{
		{[]api.Literal{a}, "a."}, {[]api.Literal{b}, "not b(1)."}, {[]api.Literal{c}, "2 > X."}, {[]api.Literal{a, b}, "a, not b(1)."},
		{[]api.Literal{c, a, a}, "2 > X, a, a."}, {[]api.Literal{b, c, a, b}, "not b(1), 2 > X, a, not b(1)."},
	} {
		want(t, print.Query(x.body), x.want)
		want(t, print.Clause(clause(atom("h"), x.body...)), "h :- "+x.want)
		want(t, print.Clause(clause(atom("h", num(0), name("a")), x.body...)), "h(0, a) :- "+x.want)
		want(t, print.Program(programOf(clause(atom("h"), x.body...), clause(atom("a")))), "h :- "+x.want+"\na.\n")
	}
	want(t, print.Clause(clause(atom("h"))), "h.")
	want(t, print.Clause(clause(atom("h", variable("X")))), "h(X).")
	want(t, print.Clause(clause(atom("H"))), "")
	want(t, print.Clause(clause(atom("H"), a)), "")
	want(t, print.Clause(clause(atom("h"), a, api.Literal{})), "")
}

func TestProgramsAndFactsOfNothing(t *testing.T) {
	wantWell(t, api.Program{}, api.OK)
	for _, got := range []string{
		print.Program(api.Program{}), print.Program(programOf([]api.Clause{}...)), print.Facts(nil), print.Facts([]api.Fact{}), print.Query([]api.Literal{}),
		print.Term(api.Term{}), print.Atom(api.Atom{}), print.Literal(api.Literal{}), print.Clause(api.Clause{}), print.Program(programOf(api.Clause{})), print.Fact(api.Fact{}), print.Facts(make([]api.Fact, 1)),
	} {
		want(t, got, "")
	}
	wantWell(t, programOf(api.Clause{}), api.ErrName)
}

func TestFacts(t *testing.T) {
	want(t, print.Fact(fact("p", num(-1), name("a"), text("a"))), `p(-1, a, "a")`)
	want(t, print.Facts([]api.Fact{fact("q"), fact("q"), fact("p", text("\n"))}), "q.\nq.\np(\"\\n\").\n")
	// a variable, and a constant that is none, stand in no fact
	long := strings.Repeat("a", api.MaxText)
	for _, x := range []api.Term{variable("X"), variable("_"), {}, name("X"), name("not"), text(long + "a"), {Kind: 5}, {Kind: api.KInt, Text: "1"}, {Kind: api.KText, Int: 1}} {
		for at := range 3 {
			args, list := times(3, num(1)), times(3, fact("p"))
			args[at] = x
			list[at] = fact("p", args...)
			want(t, print.Fact(list[at]), "")
			want(t, print.Facts(list), "")
		}
	}
}

// A list of facts has its text however long it is; one fact that is none leaves nothing of it.
func TestManyFacts(t *testing.T) {
	for _, n := range []int{api.MaxFacts, api.MaxFacts + 1, 10 * api.MaxFacts} {
		many := times(n, fact("p", num(1)))
		want(t, print.Facts(many), strings.Repeat("p(1).\n", n))
		want(t, print.Facts(append(many, fact("P"))), "")
		want(t, print.Facts(append([]api.Fact{fact("P")}, many...)), "")
	}
	most := print.Facts(times(api.MaxFacts, fact("p", num(1))))
	if got, f := parse.Facts(most); f != (api.Fault{}) || len(got) != api.MaxFacts {
		t.Errorf("P3: %d facts are not read back: %v", api.MaxFacts, f)
	}
}

// No text is cut for its length: what parse takes no more is printed whole.
func TestLongTexts(t *testing.T) {
	long := text(strings.Repeat("\x00", api.MaxText))
	full := clause(atom("p", times(8, long)...), times(16, pos(atom("p", times(8, long)...)))...)
	one := `p(` + strings.Repeat(`"`+strings.Repeat(`\x00`, api.MaxText)+`", `, 7) + `"` + strings.Repeat(`\x00`, api.MaxText) + `")`
	line := one + " :- " + strings.Repeat(one+", ", 15) + one + "."
	want(t, print.Clause(full), line)
	want(t, print.Query(full.Body), strings.TrimPrefix(line, one+" :- "))
	want(t, print.Program(programOf(times(20, full)...)), strings.Repeat(line+"\n", 20))
	if _, f := parse.Program(print.Program(programOf(full))); f != (api.Fault{Code: api.ErrLong}) {
		t.Errorf("%v; want ErrLong", f)
	}
}

// P3: parse goes back.

// bare is a copy of a thing without its offsets.
func bare[T any](x T) T {
	v := reflect.ValueOf(&x).Elem()
	strip(v)
	return x
}

func strip(v reflect.Value) {
	switch v.Kind() {
	case reflect.Slice:
		list := reflect.MakeSlice(v.Type(), v.Len(), v.Len())
		reflect.Copy(list, v)
		v.Set(list)
		for i := range v.Len() {
			strip(v.Index(i))
		}
	case reflect.Struct:
		for i := range v.NumField() {
			if v.Type().Field(i).Name == "Off" {
				v.Field(i).SetInt(0)
			}
			strip(v.Field(i))
		}
	}
}

// same is equality but for offsets; an empty list and nil are one.
func same[T any](a, b T) bool { return reflect.DeepEqual(bare(a), bare(b)) }

func holdBack(t *testing.T, p api.Program) {
	t.Helper()
	s := print.Program(p)
	if len(s) > api.MaxSource || t.Failed() {
		return
	}
	if got, f := parse.Program(s); f != (api.Fault{}) || !same(got, p) {
		t.Errorf("P3: parse.Program(%q) = %.300v, %v", short(s), got, f)
	}
}

func holdQueryBack(t *testing.T, ls []api.Literal) {
	t.Helper()
	s := print.Query(ls)
	if len(s) > api.MaxSource || t.Failed() {
		return
	}
	if got, f := parse.Query(s); f != (api.Fault{}) || !same(got, ls) {
		t.Errorf("P3: parse.Query(%q) = %.300v, %v", short(s), got, f)
	}
}

func holdFactsBack(t *testing.T, fs []api.Fact) {
	t.Helper()
	s := print.Facts(fs)
	if len(s) > api.MaxSource || len(fs) > api.MaxFacts || t.Failed() {
		return
	}
	var got []api.Fact
	as, f := parse.Facts(s)
	for _, a := range as {
		got = append(got, fact(a.Pred, a.Args...))
	}
	if f != (api.Fault{}) || !same(got, fs) {
		t.Errorf("P3: parse.Facts(%q) = %.300v, %v", short(s), as, f)
	}
	for _, x := range fs {
		if got, f := parse.Fact(print.Fact(x)); f != (api.Fault{}) || !same(got, x) {
			t.Errorf("P3: parse.Fact(%q) = %v, %v", print.Fact(x), got, f)
		}
	}
}

// Every kind of term in every place where a term may stand, and every byte of a text.
func TestBackTermByTerm(t *testing.T) {
	terms := []api.Term{num(0), num(math.MinInt64), num(math.MaxInt64), num(-1), name("a"), name("nota"), name("a_Z9"), variable("_"), variable("X"), variable("__"), variable("Not"), text(""), text("%"), text("/*"), text("*/"), text("not"), text("."), text("\\"), text("\"")}
	for b := range 256 {
		terms = append(terms, text(string([]byte{byte(b)})), text(string([]byte{'x', byte(b), 'a', 'f'})))
	}
	for _, x := range terms {
		for op := api.OpEq; op <= api.OpGe; op++ {
			body := []api.Literal{test(op, x, x), pos(atom("p", x)), test(op, x, num(1)), neg(atom("q", x, x)), test(op, num(1), x)}
			holdQueryBack(t, body)
			holdBack(t, programOf(clause(atom("p", x)), clause(atom("p", x, x), body...), clause(atom("q"), body[0])))
		}
		if x.Kind != api.KVar {
			holdFactsBack(t, []api.Fact{fact("p", x), fact("q", x, x), fact("p")})
		}
	}
}

// A text of just MaxSource bytes is read back; the longest that it may be.
func TestBackAtTheGreatestLength(t *testing.T) {
	line := clause(atom("p", text(strings.Repeat("a", 121)))) // 128 bytes with its line end
	p := programOf(times(api.MaxClauses, line)...)
	s := print.Program(p)
	if len(s) != api.MaxSource {
		t.Fatalf("%d bytes", len(s))
	}
	holdBack(t, p)
	p.Clauses[7] = clause(atom("p", text(strings.Repeat("a", 122))))
	if _, f := parse.Program(print.Program(p)); f != (api.Fault{Code: api.ErrLong}) {
		t.Errorf("%v; want ErrLong", f)
	}
}

// P4: a normal form.

func TestNormalForm(t *testing.T) {
	for _, c := range []struct{ src, want string }{
		{"", ""}, {" % nothing\n/* at all */", ""}, {"p.", "p.\n"}, {"p . q.r .", "p.\nq.\nr.\n"},
		{"p(007,-0)%x\n:-\"\\x41\"<X,q(X) . r.", "p(7, 0) :- \"A\" < X, q(X).\nr.\n"},
		{"a:-b,not c(X),X<=3.", "a :- b, not c(X), X <= 3.\n"}, {"a :- not/**/b,_!=_,a=b.", "a :- not b, _ != _, a = b.\n"},
		{"p(\"\\x0a\\x09\\x0d\\x22\\x5c\\xFF\\x7f\").", `p("\n\t\r\"\\\xff\x7f").` + "\n"},
		{"p( X , _Y\n,\t-09223372036854775808 ).\r\n", "p(X, _Y, -9223372036854775808).\n"},
	} {
		p, f := parse.Program(c.src)
		if f != (api.Fault{}) {
			t.Fatalf("parse.Program(%q): %v", c.src, f)
		}
		want(t, print.Program(p), c.want)
		holdNormal(t, c.src)
	}
}

// holdNormal: what parse makes of a text is well formed, and printing it again changes nothing any more.
func holdNormal(t *testing.T, src string) {
	t.Helper()
	p, f := parse.Program(src)
	if f != (api.Fault{}) || t.Failed() {
		return
	}
	s := print.Program(p)
	if print.Well(p) != api.OK || len(p.Clauses) != strings.Count(s, "\n") || len(p.Clauses) > 0 && !strings.HasSuffix(s, ".\n") {
		t.Errorf("P4: Well of parse.Program(%q) is %d, its text %q", short(src), print.Well(p), short(s))
	}
	if odd := strings.IndexFunc(s, func(r rune) bool { return r != '\n' && (r < 0x20 || r > 0x7e) }); odd >= 0 {
		t.Errorf("P4: %q has the byte %#x", short(s), s[odd])
	}
	if len(s) > api.MaxSource {
		return
	}
	again, f := parse.Program(s)
	if f != (api.Fault{}) || print.Program(again) != s || !same(again, p) {
		t.Errorf("P4: %q, printed again: %q, %v", short(s), short(print.Program(again)), f)
	}
}

// Two texts have one canonical form just if parse answers the same for both, but for offsets.
func TestOneFormForOneMeaning(t *testing.T) {
	texts := []string{
		"", "%", "p.", "p .", "p. p.", "p.p.", "p(a).", "p(\"a\").", "p(\"\\x61\").", "p(A).", "p(a,b).", "p(a, b).", "p(1).", "p(01).", "p(-1).", "p(0).", "p(-0).", "p(\"0\").",
		"p:-a.", "p :- a .", "p :- not a.", "p :- nota.", "p :- a, b.", "p :- b, a.", "p :- a, a.", "p. a.", "p :- a=b.", "p :- a = b.", "p :- b = a.", "p :- a != b.", "p :- a < b.", "p :- a <= b.", "p :- a > b.", "p :- b < a.", "p :- a >= b.",
		"p :- X = Y.", "p :- Y = X.", "p :- _ = _.", "p :- X = \"Y\".", "p(\"\\n\").", "p(\"\\x0A\").", "p(\"\\x0a\").", "p(\"n\").", "p(\"\\\\n\").", "p(\"a, b\").", "p(\"a\", b).",
	}
	for _, a := range texts {
		p, f := parse.Program(a)
		if f != (api.Fault{}) {
			t.Fatalf("parse.Program(%q): %v", a, f)
		}
		for _, b := range texts {
			q, _ := parse.Program(b)
			if (print.Program(p) == print.Program(q)) != same(p, q) {
				t.Errorf("P4: %q and %q: %q and %q", a, b, print.Program(p), print.Program(q))
			}
		}
	}
}

// P5: nothing is changed or kept, empty lists and nil are the same, calls side by side have nothing to do with each other.

func everyList() (api.Program, []api.Fact) {
	room := func(ts ...api.Term) []api.Term { return append(make([]api.Term, 0, 2*len(ts)+3), ts...) }
	a := api.Atom{Pred: "a", Args: room(num(1), variable("X"), name("b"), text("\n")), Off: 5}
	body := append(make([]api.Literal, 0, 9), pos(a), neg(a), test(api.OpLe, variable("X"), text("c")))
	p := programOf(append(make([]api.Clause, 0, 5), clause(a, body...), clause(a))...)
	args := append(make([]api.Const, 0, 6), api.Const{Kind: api.KInt, Int: 4}, api.Const{Kind: api.KText, Text: "\x00"})
	return p, append(make([]api.Fact, 0, 7), api.Fact{Pred: "f", Args: args}, api.Fact{Pred: "g"})
}

// allTexts is every call's answer on the parts of a program and a list of facts.
func allTexts(p api.Program, fs []api.Fact) string {
	var b strings.Builder
	for _, c := range p.Clauses {
		b.WriteString(print.Clause(c) + print.Atom(c.Head) + print.Query(c.Body))
		for _, l := range c.Body {
			b.WriteString(print.Literal(l) + print.Term(l.Left) + print.Term(l.Right))
		}
		for _, x := range c.Head.Args {
			b.WriteString(print.Term(x))
		}
	}
	for _, f := range fs {
		b.WriteString(print.Fact(f))
	}
	if print.Well(p) == api.OK {
		b.WriteString("well")
	}
	return b.String() + print.Program(p) + print.Facts(fs)
}

// spare writes marks into the spare room of every list, or looks whether they are still there.
func spare(v reflect.Value, mark bool) bool {
	whole := true
	switch v.Kind() {
	case reflect.Slice:
		behind := v.Slice3(0, v.Cap(), v.Cap())
		for i := v.Len(); i < v.Cap(); i++ {
			odd := reflect.New(v.Type().Elem()).Elem()
			for at := range odd.NumField() {
				if odd.Field(at).Kind() == reflect.String {
					odd.Field(at).SetString("mark")
				}
			}
			if mark {
				behind.Index(i).Set(odd)
			}
			whole = whole && reflect.DeepEqual(behind.Index(i).Interface(), odd.Interface())
		}
		for i := range v.Len() {
			whole = spare(v.Index(i), mark) && whole
		}
	case reflect.Struct:
		for i := range v.NumField() {
			whole = spare(v.Field(i), mark) && whole
		}
	}
	return whole
}

func TestNothingIsChanged(t *testing.T) {
	p, fs := everyList()
	whole, wholeFacts := everyList()
	spare(reflect.ValueOf(p), true)
	spare(reflect.ValueOf(fs), true)
	first := allTexts(p, fs)
	if !reflect.DeepEqual(p, whole) || !reflect.DeepEqual(fs, wholeFacts) {
		t.Error("what is handed in is changed")
	}
	if !spare(reflect.ValueOf(p), false) || !spare(reflect.ValueOf(fs), false) {
		t.Error("the spare room of what is handed in is changed")
	}
	if again := allTexts(p, fs); again != first || !strings.Contains(first, "well") {
		t.Errorf("%q, and again %q", first, again)
	}
}

// What was printed once says nothing of what is printed next from the same lists.
func TestNothingIsKept(t *testing.T) {
	args := []api.Term{num(1), num(2)}
	a := atom("p", args...)
	want(t, print.Atom(a), "p(1, 2)")
	a.Args[0] = variable("X")
	want(t, print.Atom(a), "p(X, 2)")
	a.Args[0] = variable("x")
	want(t, print.Atom(a), "")
	wantWell(t, programOf(clause(a)), api.ErrName)
	a.Args[0] = num(3)
	want(t, print.Atom(a), "p(3, 2)")
	wantWell(t, programOf(clause(a)), api.OK)
}

func TestEmptyListsAndNil(t *testing.T) {
	for _, args := range [][]api.Term{nil, {}, make([]api.Term, 0, 4)} {
		a := api.Atom{Pred: "p", Args: args}
		for _, body := range [][]api.Literal{nil, {}, make([]api.Literal, 0, 4)} {
			want(t, print.Clause(api.Clause{Head: a, Body: body}), "p.")
			want(t, print.Query(body), "")
			wantWell(t, programOf(api.Clause{Head: a, Body: body}), api.OK)
		}
		l := test(api.OpEq, num(1), num(1))
		l.Atom.Args = args
		want(t, print.Literal(l), "1 = 1")
		want(t, print.Literal(neg(a)), "not p")
	}
	for _, args := range [][]api.Const{nil, {}, make([]api.Const, 0, 4)} {
		want(t, print.Fact(api.Fact{Pred: "p", Args: args}), "p")
	}
}

func TestCallsSideBySide(t *testing.T) {
	p, fs := everyList()
	alone := allTexts(p, fs)
	var all sync.WaitGroup
	for range 8 {
		all.Go(func() {
			for range 50 {
				if got := allTexts(p, fs); got != alone {
					t.Errorf("%q; want %q", got, alone)
					return
				}
			}
		})
	}
	all.Wait()
}
