package core_test

import (
	"slices"
	"strconv"
	"strings"
	"testing"

	"edict/api"
	"edict/core"
	"edict/print"
)

// The examples of the chapter

const (
	firstRule  = "p(X, a) :- q(X, _), not r(b, X), X != 3."
	firstFacts = "q(c, 3)."
)

func firstCore() api.Core {
	return api.Core{
		Preds:  preds("p/2", "q/2", "r/2"),
		Consts: consts("a", "b", 3, "c"),
		Rules: []api.Rule{{
			Head:  pat(0, v(0), c(0)),
			Pos:   []api.Pattern{pat(1, v(0), v(1))},
			Tests: []api.Test{{Op: api.OpNe, Left: v(0), Right: c(2)}},
			Neg:   []api.Pattern{pat(2, c(1), v(0))},
			Vars:  []string{"X", "_"},
		}},
		Facts: []api.Row{row(1, 3, 2)},
	}
}

func TestExample1(t *testing.T) {
	p, facts := parsed(t, firstRule, firstFacts)
	wantBuild(t, p, facts, firstCore())
}

func TestExample2(t *testing.T) {
	p, facts := parsed(t, "q(a). p(X) :- q(X). q(b). q(a).", "")
	wantBuild(t, p, facts, api.Core{
		Preds:  preds("q/1", "p/1"),
		Consts: consts("a", "b"),
		Rules:  []api.Rule{{Head: pat(1, v(0)), Pos: []api.Pattern{pat(0, v(0))}, Vars: []string{"X"}, Clause: 1}},
		Facts:  []api.Row{row(0, 0), row(0, 1)},
	})
}

func TestExamples3To5(t *testing.T) {
	refused(t, api.ErrRange, "p(@X).", "")
	refused(t, api.ErrRange, "p(@X) :- not q(X).", "")
	refused(t, api.ErrRange, "p :- q(X), not r(@_).", "")
	refused(t, api.ErrRange, "p :- q(X), X < @Y.", "")
	refused(t, api.ErrClash, "p(a). @p :- q.", "")
	refused(t, api.ErrClash, "p(a).", "@p(a, b).")
	refused(t, api.ErrClash, "p(X) :- q(a). @q(a, b).", "")
}

func TestExample6(t *testing.T) {
	k := built(t, "p :- q(_, _), r(X, _).", "")
	want := api.Rule{Head: pat(0), Pos: []api.Pattern{pat(1, v(0), v(1)), pat(2, v(2), v(3))}, Vars: []string{"_", "_", "X", "_"}}
	if !same(k.Rules, []api.Rule{want}) {
		t.Errorf("rules %+v, want %+v", k.Rules, want)
	}
}

const sixteen = "q(A, B, C, D, E, F, G, H), r(I, J, K, L, M, N, O, P)"

func TestExample7(t *testing.T) {
	accepted(t, "p :- "+sixteen+".", "")
	refused(t, api.ErrVars, "p :- "+sixteen+", s(@Z).", "")
	refused(t, api.ErrVars, "p :- "+sixteen+", not s(@Z).", "")
	refused(t, api.ErrVars, "p :- "+sixteen+", @Z = A.", "")
	refused(t, api.ErrVars, "p(Z) :- "+strings.Replace(sixteen, "P", "@P", 1)+".", "")
	refused(t, api.ErrRange, "p(@Z) :- "+strings.Replace(sixteen, ", P", "", 1)+".", "")
}

func TestExample8(t *testing.T) {
	k := firstCore()
	want := firstCore()
	want.Preds = preds("p/2", "q/2", "r/2", "s/1")
	want.Consts = consts("a", "b", 3, "c", "d")
	rule := api.Rule{Head: pat(-1), Pos: []api.Pattern{pat(1, v(0), c(4))}, Neg: []api.Pattern{pat(3, v(0))}, Vars: []string{"X"}, Clause: -1}
	wantQuery(t, k, parsedQuery(t, "q(X, d), not s(X)."), want, rule)
	queryRefused(t, k, api.ErrClash, "@q(X).")
	queryRefused(t, k, api.ErrClash, "s(X), @s(X, X).")
}

func TestExample9(t *testing.T) {
	got, e := core.Back(firstCore(), 0)
	if s := print.Clause(got); e != api.OK || s != "p(X, a) :- q(X, _), X != 3, not r(b, X)." {
		t.Errorf("Back = %q, %d", s, e)
	}
}

// Variables (P1, P2)

func TestVars(t *testing.T) {
	for _, x := range []struct {
		query string
		want  []string
	}{
		{"q(X).", []string{"X"}},
		{"q.", nil},
		{"q(a, 1, \"X\").", nil},
		{"q(X, Y, X), r(Z, Y).", []string{"X", "Y", "Z"}},
		{"q(_, X, _), r(_, X).", []string{"_", "X", "_", "_"}},
		{"q(__, _a, __, _, _a).", []string{"__", "_a", "_"}},
		{"not q(X), r(Y), Z < X, not s(Y, W).", []string{"Y"}},
		{"not q(X), Y = 1.", nil},
	} {
		if got := core.Vars(parsedQuery(t, x.query)); !slices.Equal(got, x.want) {
			t.Errorf("Vars of %s: %q, want %q", x.query, got, x.want)
		}
	}
	if got := core.Vars(nil); len(got) > 0 {
		t.Errorf("Vars(nil) = %q", got)
	}
}

func TestVarsLooksAtNothingElse(t *testing.T) {
	q := atom(0, "q", variable("X", 0), name("Y", 0), api.Term{Kind: 0, Text: "Z"}, api.Term{Kind: 5, Text: "Z"})
	for _, kind := range []int{api.LNeg, api.LTest, 0, -1, 4} {
		if got := core.Vars([]api.Literal{{Kind: kind, Atom: q, Left: variable("X", 0), Right: variable("Y", 0)}}); len(got) > 0 {
			t.Errorf("Vars of a literal of kind %d: %q", kind, got)
		}
	}
	odd := api.Literal{Kind: api.LPos, Op: 9, Left: variable("L", 0), Right: variable("R", 0)}
	odd.Atom = api.Atom{Args: []api.Term{{Kind: api.KVar, Text: "", Int: 3}, {Kind: api.KVar, Text: "not a name"}, {Kind: api.KVar}, {Kind: api.KVar, Text: "_", Int: 1}, {Kind: api.KVar, Text: "_"}}}
	if got := core.Vars([]api.Literal{odd, pos(q)}); !slices.Equal(got, []string{"", "not a name", "_", "_", "X"}) {
		t.Errorf("Vars of a positive atom that no text can have: %q", got)
	}
}

func TestManyVars(t *testing.T) {
	wide := make([]api.Term, 100000)
	for i := range wide {
		wide[i] = variable("V"+strconv.Itoa(i%70000), i)
	}
	q := pos(atom(0, "q", wide...))
	if got := core.Vars([]api.Literal{q, q}); len(got) != 70000 || got[69999] != "V69999" {
		t.Errorf("%d variables of a great atom", len(got))
	}
	if got := core.Unbound(clause(atom(0, "p", append(wide, variable("W", 7))...), q)); got != 7 {
		t.Errorf("Unbound of a great clause: %d", got)
	}
}

func TestUnbound(t *testing.T) {
	for _, src := range []string{
		"p. @", "p(a). @", "p :- q. @", "p(X) :- q(X). @", "p(X, X) :- q(Y), r(X), not s(Y), X < Y. @", "p :- not r(X), Y < 3, 3 < Y, q(X, Y). @",
		"p :- q(_). @", "p :- q(_a), _a < 3. @", "p(__) :- q(__). @",
		"p(@X).", "p(a, @X) :- q(Y), not r(Y, Z).", "p(@_).", "p(@_) :- q(_).", "p(X, @Y) :- q(X), not q(Y).", "p(X, @Y) :- q(X), Y = X.",
		"p :- q(X), not r(X, a, @Y, Z).", "p :- not r(@_), q(_).", "p :- @_ = 1, q(_).", "p :- q(X), X = @_.",
		"p :- @X = Y, not r(Z).", "p :- not r(@Z), X = Y.", "p :- 1 < @X, not r(Y), q(Y).", "p :- q(Y), 1 < Y, Y < @X, not r(Y).", "p :- not r(@X), not s(Y).",
		"p :- q(_a), _a < @_b.", "p(@X) :- q(x, \"X\", 1).", "p(X) :- q(X), not r(@Y), Y < X.",
	} {
		p, _ := parsed(t, strings.Replace(src, "@", "", 1), "")
		want := strings.Index(src, "@")
		if strings.HasSuffix(src, "@") {
			want = -1
		}
		if got := core.Unbound(p.Clauses[0]); got != want {
			t.Errorf("Unbound of %s: %d, want %d", src, got, want)
		}
	}
}

func TestUnboundLooksAtNothingElse(t *testing.T) {
	x := variable("X", 5)
	q := atom(1, "q", x)
	for _, l := range []api.Literal{
		{Kind: api.LPos, Left: variable("Y", 6), Right: variable("Z", 7)},
		{Kind: api.LNeg, Left: x, Right: x},
		{Kind: api.LTest, Atom: q},
		{Kind: 0, Atom: q, Left: x, Right: x},
		{Kind: 4, Atom: q, Left: x, Right: x},
		{Kind: -1, Atom: q, Left: x, Right: x},
	} {
		if got := core.Unbound(clause(atom(0, "p"), l)); got != -1 {
			t.Errorf("Unbound with the literal %+v: %d", l, got)
		}
		if got := core.Unbound(clause(atom(0, "p", x), l)); got != 5 {
			t.Errorf("Unbound with a head's X and the literal %+v: %d", l, got)
		}
	}
	odd := api.Term{Kind: api.KVar, Text: "no name", Int: 8, Off: 9}
	if got := core.Unbound(clause(atom(0, "", odd))); got != 9 {
		t.Errorf("Unbound of a variable that no text can have: %d", got)
	}
	if got := core.Unbound(clause(atom(0, "", odd), pos(atom(3, "Q", api.Term{Kind: api.KVar, Text: "no name"})))); got != -1 {
		t.Errorf("Unbound of a bound variable that no text can have: %d", got)
	}
	if got := core.Unbound(clause(atom(0, "p", name("X", 4), api.Term{Kind: 9, Text: "X", Off: 5}))); got != -1 {
		t.Errorf("Unbound of terms that are no variables: %d", got)
	}
	if got := core.Unbound(api.Clause{}); got != -1 {
		t.Errorf("Unbound of the zero Clause: %d", got)
	}
	if got := core.Unbound(clause(atom(0, "p", variable("X", -7)))); got != -7 {
		t.Errorf("Unbound of a variable with an offset below 0: %d", got)
	}
}

// Build's faults (P3)

func TestProgramsThatAreNotWell(t *testing.T) {
	nine := slices.Repeat([]api.Term{name("a", 6)}, 9)
	broken := []api.Atom{atom(9, "P")}
	for _, x := range []struct {
		p    api.Program
		want api.Errno
	}{
		{programOf(slices.Repeat([]api.Clause{clause(atom(3, "p"))}, 513)...), api.ErrClauses},
		{programOf(clause(atom(3, "p")), clause(atom(4, "P"))), api.ErrName},
		{programOf(clause(atom(3, "p", nine...))), api.ErrArity},
		{programOf(clause(atom(3, "p", api.Term{Off: 5}))), api.ErrConst},
		{programOf(clause(atom(3, "p", variable("x", 5)))), api.ErrName},
		{programOf(clause(atom(3, "p"), slices.Repeat([]api.Literal{pos(atom(5, "q"))}, 17)...)), api.ErrBody},
		{programOf(clause(atom(3, "p"), api.Literal{Kind: 4, Off: 5})), api.ErrArg},
		{programOf(clause(atom(3, "p"), test(7, integer(1, 5), integer(1, 7)))), api.ErrArg},
		{programOf(clause(atom(3, "p", variable("X", 5))), clause(atom(8, "p")), clause(atom(9, "not"))), api.ErrName},
	} {
		wantRefused(t, x.p, nil, api.Fault{Code: x.want})
		wantRefused(t, x.p, broken, api.Fault{Code: x.want})
		wantRefused(t, x.p, make([]api.Atom, 4097), api.Fault{Code: x.want})
	}
}

func TestFactsLimit(t *testing.T) {
	var facts []api.Atom
	for i := range 4097 {
		facts = append(facts, atom(10*i+3, "p", integer(int64(i), 10*i)))
	}
	k, f := core.Build(api.Program{}, facts[:4096])
	if f != (api.Fault{}) || len(k.Facts) != 4096 || len(k.Consts) != 4096 || len(k.Preds) != 1 {
		t.Errorf("Build of 4096 facts: %s, %v", short(k), f)
	}
	wantRefused(t, api.Program{}, facts, api.Fault{Code: api.ErrClauses, Text: 1})
	facts[0].Pred = "P"
	wantRefused(t, api.Program{}, facts, api.Fault{Code: api.ErrClauses, Text: 1})
	wantRefused(t, api.Program{}, facts[:4096], api.Fault{Code: api.ErrArg, Text: 1, Off: 3})
	facts[0].Pred = "p"
	wantRefused(t, api.Program{}, slices.Repeat(facts[:1], 4097), api.Fault{Code: api.ErrClauses, Text: 1})
}

func TestFactsThatMayNotBe(t *testing.T) {
	good := atom(3, "p", name("a", 5))
	clash := programOf(clause(atom(0, "p")), clause(atom(3, "q", variable("X", 5))))
	for _, bad := range []api.Atom{
		atom(40, "P"), atom(40, ""), atom(40, "not"), atom(40, strings.Repeat("p", 65)),
		atom(40, "p", slices.Repeat([]api.Term{integer(1, 42)}, 9)...),
		atom(40, "p", api.Term{Off: 42}), atom(40, "p", name("A", 42)), atom(40, "p", api.Term{Kind: api.KInt, Text: "a"}),
		atom(40, "p", name("a", 42), variable("X", 45)), atom(40, "p", variable("_", 42)), atom(40, "p", variable("x", 42)),
		atom(40, "p", api.Term{Kind: api.KText, Text: strings.Repeat("a", 256)}),
	} {
		wantRefused(t, api.Program{}, []api.Atom{bad}, api.Fault{Code: api.ErrArg, Text: 1, Off: 40})
		later := bad
		later.Off = 50
		wantRefused(t, clash, []api.Atom{good, good, bad, later}, api.Fault{Code: api.ErrArg, Text: 1, Off: 40})
		bad.Off = -1
		wantRefused(t, api.Program{}, []api.Atom{good, bad}, api.Fault{Code: api.ErrArg, Text: 1, Off: -1})
	}
}

func TestClashes(t *testing.T) {
	for _, x := range [][2]string{
		{"p. @p(a).", ""}, {"p(a). @p.", ""}, {"p(a) :- @p.", ""}, {"p(a) :- not @p.", ""}, {"p :- q, @q(a).", ""}, {"p :- not q(a), @q.", ""}, {"p :- q(a), not @q.", ""},
		{"p :- not q, not @q(X), r(X).", ""}, {"p :- q. @q(a).", ""}, {"p :- q. r :- @q(a).", ""}, {"p. q. r. q. @r(1).", "p(a)."},
		{"p :- q.", "@q(a)."}, {"p :- not q.", "p. @q(a)."}, {"", "p. p. @p(a). p(b)."}, {"p(a).", "p(b). @p(a, b)."}, {"p(a).", "q. @q(a). p."},
		{"p(X) :- q(Y), 1 < Z. @q.", ""}, {"p(X). @p.", "p."},
	} {
		refused(t, api.ErrClash, x[0], x[1])
	}
	accepted(t, "p(q) :- q(p, q), p(r), r(p), not s, q(p, q) . s. s :- s, not t. p(p).", "q(p, p). t.")
	accepted(t, "p :- q, p = q, p < 1.", "")
}

func TestClashesAreAtTheAtom(t *testing.T) {
	q := api.Literal{Kind: api.LPos, Atom: atom(30, "p"), Off: 77}
	wantRefused(t, programOf(clause(atom(0, "p", name("a", 2)), q)), nil, api.Fault{Code: api.ErrClash, Off: 30})
	q.Kind = api.LNeg
	wantRefused(t, programOf(clause(atom(0, "p", name("a", 2)), q)), nil, api.Fault{Code: api.ErrClash, Off: 30})
	q.Atom.Off = -5
	wantRefused(t, programOf(clause(atom(0, "p", name("a", 2)), q)), nil, api.Fault{Code: api.ErrClash, Off: -5})
}

// wide is a program's text with so many predicates, p0 to the last.
func wide(n int) (src string) {
	for i := range n {
		src += "p" + strconv.Itoa(i) + ". "
	}
	return src
}

func TestPredicatesLimit(t *testing.T) {
	accepted(t, wide(128), "")
	accepted(t, wide(128)+"p3 :- not p127, p0.", "p5. p127.")
	accepted(t, wide(127), "q. q. p5.")
	k := built(t, wide(127)+"p1 :- not q(1).", "q(1).")
	if len(k.Preds) != 128 || k.Preds[127] != (api.Pred{Name: "q", Arity: 1}) {
		t.Errorf("128 predicates: %v", k.Preds)
	}
	refused(t, api.ErrPreds, wide(128)+"@q.", "")
	refused(t, api.ErrPreds, wide(128)+"p3 :- p0, @q(X, Y), r.", "")
	refused(t, api.ErrPreds, wide(128)+"p3 :- p0, not @q.", "")
	refused(t, api.ErrPreds, wide(128), "p3. @q. r.")
	refused(t, api.ErrPreds, wide(127)+"q.", "q. @r.")
	refused(t, api.ErrPreds, wide(128)+"@q. p0(a).", "")
	refused(t, api.ErrClash, wide(128)+"@p0(a). q.", "")
	refused(t, api.ErrPreds, wide(128)+"@q(a). q.", "")
	refused(t, api.ErrClash, wide(127)+"q(a). @q. r.", "")
	refused(t, api.ErrClash, wide(128)+"@p127(a).", "q.")
	refused(t, api.ErrPreds, "h(X) :- r(Y). "+wide(126)+"@q.", "")
}

func TestVariablesLimit(t *testing.T) {
	blanks := "q(_, _, _, _, _, _, _, _), r(_, _, _, _, _, _, _, "
	accepted(t, "p :- "+blanks+"_).", "")
	accepted(t, "p(X) :- "+blanks+"X).", "")
	accepted(t, "p(X, X, X) :- "+blanks+"X), X < 1, s(X), not t(X).", "")
	refused(t, api.ErrVars, "p :- "+blanks+"_), s(@_).", "")
	refused(t, api.ErrVars, "p :- "+blanks+"X), s(X, @_, _, Y).", "")
	refused(t, api.ErrVars, "p :- "+blanks+"X), @Y < X, s(Y).", "")
	refused(t, api.ErrVars, "p :- "+blanks+"X), X < @Y, s(Y).", "")
	refused(t, api.ErrVars, "p :- "+blanks+"X), not s(X, @_).", "")
	refused(t, api.ErrVars, "p(_) :- "+blanks+"@_).", "")
	refused(t, api.ErrVars, "p(_, _) :- "+strings.Replace(blanks, "_, _, ", "X, X, ", 1)+"@_).", "")
	refused(t, api.ErrVars, "p(A, B, C) :- D = E, not q(F, G, H, I, J, K, L, M), not r(N, O, P, @Q, R).", "")
	refused(t, api.ErrRange, "p(@A, B, C) :- D = E, not q(F, G, H, I, J, K, L, M), not r(N, O, P).", "")
	refused(t, api.ErrRange, "p(A, B, @_) :- "+strings.Replace(sixteen, "P", "O", 1)+", A < B.", "")
	refused(t, api.ErrVars, "p(A, B, _) :- "+strings.Replace(sixteen, "P", "@P", 1)+", A < Z.", "")
}

func TestTheFirstClauseWithAFault(t *testing.T) {
	accepted(t, "p(X) :- q(X). p(Y) :- q(Y), not r(Y).", "")
	tooMany := "s :- " + strings.Replace(sixteen, "q(", "t(", 1) + ", u("
	refused(t, api.ErrRange, "p(@X) :- not z(X). "+tooMany+"Q).", "")
	refused(t, api.ErrVars, tooMany+"@Q). p(X) :- not z(X).", "")
	refused(t, api.ErrRange, "p. p :- q(a). p :- q(X), not s(@Y). p :- Z < X, q(X). q(X).", "q(a).")
	refused(t, api.ErrRange, "q(a). q(@X). p :- q(X).", "")
	refused(t, api.ErrRange, "p :- @X < Y.", "")
	refused(t, api.ErrRange, "p :- q(X), X < @X1.", "")
}

func TestRangeAtAnyOffset(t *testing.T) {
	for _, off := range []int{-2, -1, 0, 1} {
		wantRefused(t, programOf(clause(atom(3, "p", variable("X", off)))), nil, api.Fault{Code: api.ErrRange, Off: off})
		wantNoQuery(t, api.Core{}, []api.Literal{test(api.OpEq, variable("X", off), integer(1, 9))}, api.Fault{Code: api.ErrRange, Off: off})
	}
}

// full is a program of 512 clauses, each with 16 atoms of eight different integers, 0 to 65535; the offset of an integer is 10 more.
func full() api.Program {
	var p api.Program
	next := 0
	for i := range 512 {
		cl := clause(atom(i, "p"))
		for range 16 {
			a := atom(i, "q")
			for range 8 {
				a.Args = append(a.Args, integer(int64(next), next+10))
				next++
			}
			cl.Body = append(cl.Body, pos(a))
		}
		p.Clauses = append(p.Clauses, cl)
	}
	return p
}

// brimful is full with eight more constants in heads and with another last literal: ahead of that there are 65536.
func brimful(last api.Literal) api.Program {
	p := full()
	for i := range 8 {
		p.Clauses[i].Head = atom(0, "r", name("a"+strconv.Itoa(i), i))
	}
	p.Clauses[511].Body[15] = last
	return p
}

func TestConstantsLimit(t *testing.T) {
	p := full()
	k, f := core.Build(p, []api.Atom{atom(1, "f", integer(65535, 3), integer(0, 4))})
	if f != (api.Fault{}) || len(k.Consts) != 65536 || k.Consts[65535].Int != 65535 || !same(k.Facts, []api.Row{row(2, 65535, 0)}) {
		t.Errorf("Build with 65536 constants: %d, %v", len(k.Consts), f)
	}
	wantRefused(t, p, []api.Atom{atom(1, "f", integer(7, 3), name("a", 4), name("b", 5))}, api.Fault{Code: api.ErrFull, Text: 1, Off: 4})
	wantRefused(t, p, []api.Atom{atom(1, "f", integer(7, 3)), atom(9, "f", integer(-1, 12))}, api.Fault{Code: api.ErrFull, Text: 1, Off: 12})
	wantRefused(t, p, []api.Atom{atom(1, "f", api.Term{Kind: api.KText, Off: 6})}, api.Fault{Code: api.ErrFull, Text: 1, Off: 6})
	p.Clauses[0].Head = atom(0, "r", name("a", 1))
	wantRefused(t, p, nil, api.Fault{Code: api.ErrFull, Off: 65535 + 10})
}

func TestConstantsOfAllLiteralsAreCounted(t *testing.T) {
	for _, x := range []struct {
		last api.Literal
		want int // the offset, or 0
	}{
		{pos(atom(1, "s")), 0},
		{test(api.OpLt, name("a0", 400), integer(9, 401)), 0},
		{neg(atom(1, "s", name("a0", 400), integer(9, 401))), 0},
		{pos(atom(1, "s", name("a0", 400), name("last", 401), name("more", 402))), 401},
		{neg(atom(1, "s", name("a0", 400), name("last", 401), name("more", 402))), 401},
		{test(api.OpLt, name("a0", 400), name("last", 401)), 401},
		{test(api.OpLt, name("last", 400), name("last", 401)), 400},
	} {
		p := brimful(x.last)
		if x.want > 0 {
			wantRefused(t, p, nil, api.Fault{Code: api.ErrFull, Off: x.want})
		} else if k, f := core.Build(p, nil); f != (api.Fault{}) || len(k.Consts) != 65536 {
			t.Errorf("the last literal %+v: %d constants, %v", x.last, len(k.Consts), f)
		}
	}
}

func TestConstantsAreTheLastFault(t *testing.T) {
	p := brimful(test(api.OpNe, name("last", 400), variable("X", 401)))
	wantRefused(t, p, nil, api.Fault{Code: api.ErrRange, Off: 401})
	wantRefused(t, p, []api.Atom{atom(7, "p", name("b", 9))}, api.Fault{Code: api.ErrClash, Text: 1, Off: 7})
}

// What is built (P4)

func TestNothingIsBuiltOfNothing(t *testing.T) {
	wantBuild(t, api.Program{}, nil, api.Core{})
	wantBuild(t, api.Program{Clauses: []api.Clause{}}, []api.Atom{}, api.Core{})
}

func TestReadingOrder(t *testing.T) {
	p, facts := parsed(t, "h(z) :- not d(y), 5 < x, b(w, v), 4 = 3, not a(5, u), a(t, y). e(s). e(z).", "g(r, 4). b(q, z).")
	wantBuild(t, p, facts, api.Core{
		Preds:  preds("h/1", "d/1", "b/2", "a/2", "e/1", "g/2"),
		Consts: consts("z", "y", 5, "x", "w", "v", 4, 3, "u", "t", "s", "r", "q"),
		Rules: []api.Rule{{
			Head:  pat(0, c(0)),
			Pos:   []api.Pattern{pat(2, c(4), c(5)), pat(3, c(9), c(1))},
			Tests: []api.Test{{Op: api.OpLt, Left: c(2), Right: c(3)}, {Op: api.OpEq, Left: c(6), Right: c(7)}},
			Neg:   []api.Pattern{pat(1, c(1)), pat(3, c(2), c(8))},
		}},
		Facts: []api.Row{row(4, 10), row(4, 0), row(5, 11, 6), row(2, 12, 0)},
	})
}

func TestVariablesOfRules(t *testing.T) {
	p, facts := parsed(t, "h(Z, X) :- not d(Y, X), X < Y, b(_, Y), Y >= Z, not a(Z), a(X), b(_, X), b(Z, _), X = X.", "")
	wantBuild(t, p, facts, api.Core{
		Preds: preds("h/2", "d/2", "b/2", "a/1"),
		Rules: []api.Rule{{
			Head:  pat(0, v(4), v(2)),
			Pos:   []api.Pattern{pat(2, v(0), v(1)), pat(3, v(2)), pat(2, v(3), v(2)), pat(2, v(4), v(5))},
			Tests: []api.Test{{Op: api.OpLt, Left: v(2), Right: v(1)}, {Op: api.OpGe, Left: v(1), Right: v(4)}, {Op: api.OpEq, Left: v(2), Right: v(2)}},
			Neg:   []api.Pattern{pat(1, v(1), v(2)), pat(3, v(4))},
			Vars:  []string{"_", "Y", "X", "_", "Z", "_"},
		}},
	})
}

func TestEveryOp(t *testing.T) {
	k := built(t, "p :- 1 = 1, 1 != 1, 1 < 1, 1 <= 1, 1 > 1, 1 >= 1.", "")
	for i, op := range []int{api.OpEq, api.OpNe, api.OpLt, api.OpLe, api.OpGt, api.OpGe} {
		if k.Rules[0].Tests[i] != (api.Test{Op: op}) {
			t.Errorf("test %d: %v", i, k.Rules[0].Tests[i])
		}
	}
}

func TestNamesTextsAndIntegersAreApart(t *testing.T) {
	p, facts := parsed(t, `p(a). p("a"). p(1). p("1"). p(""). p(-1). p(a).`, `p("\x61"). p(01). p(1).`)
	text := func(s string) api.Const { return api.Const{Kind: api.KText, Text: s} }
	wantBuild(t, p, facts, api.Core{
		Preds:  preds("p/1"),
		Consts: consts("a", text("a"), 1, text("1"), text(""), -1),
		Facts:  []api.Row{row(0, 0), row(0, 1), row(0, 2), row(0, 3), row(0, 4), row(0, 5)},
	})
}

func TestNamesOfOneKindAreApart(t *testing.T) {
	p, facts := parsed(t, "p(p, P) :- p(P, p), not q(P).", "q(p).")
	wantBuild(t, p, facts, api.Core{
		Preds:  preds("p/2", "q/1"),
		Consts: consts("p"),
		Rules:  []api.Rule{{Head: pat(0, c(0), v(0)), Pos: []api.Pattern{pat(0, v(0), c(0))}, Neg: []api.Pattern{pat(1, v(0))}, Vars: []string{"P"}}},
		Facts:  []api.Row{row(1, 0)},
	})
}

func TestFactsAreThereOnce(t *testing.T) {
	p, facts := parsed(t, "p. q(a, b). q(b, a). p. r(a). q(a, b). s(a).", "q(b, a). p. q(a, a). s(a). q(a, a). t. r(b).")
	wantBuild(t, p, facts, api.Core{
		Preds:  preds("p/0", "q/2", "r/1", "s/1", "t/0"),
		Consts: consts("a", "b"),
		Facts:  []api.Row{row(0), row(1, 0, 1), row(1, 1, 0), row(2, 0), row(3, 0), row(1, 0, 0), row(4), row(2, 1)},
	})
}

func TestWideFactsAreApart(t *testing.T) {
	facts := ""
	for i := range 8 {
		facts += "p(" + strings.Repeat("a, ", i) + "b" + strings.Repeat(", a", 7-i) + "). "
	}
	if k := built(t, "", facts+facts); len(k.Facts) != 8 {
		t.Errorf("%d facts: %v", len(k.Facts), k.Facts)
	}
}

func TestRulesThatStandTwice(t *testing.T) {
	k := built(t, "p(X) :- q(X). p(a). p(X) :- q(X). q(a) :- q(a).", "p(b). q(a).")
	rule := api.Rule{Head: pat(0, v(0)), Pos: []api.Pattern{pat(1, v(0))}, Vars: []string{"X"}}
	again, third := rule, api.Rule{Head: pat(1, c(0)), Pos: []api.Pattern{pat(1, c(0))}, Clause: 3}
	again.Clause = 2
	if !same(k.Rules, []api.Rule{rule, again, third}) || !same(k.Facts, []api.Row{row(0, 0), row(0, 1), row(1, 0)}) {
		t.Errorf("rules %+v, facts %v", k.Rules, k.Facts)
	}
}

func TestOffsetsAreOfNoAccount(t *testing.T) {
	p, facts := parsed(t, firstRule, firstFacts)
	p.Clauses[0].Head.Off = -3
	p.Clauses[0].Body[0].Atom.Args[0].Off = 1 << 40
	facts[0].Args[1].Off = -9
	wantBuild(t, p, facts, firstCore())
}

// Query (P5)

func TestQueryOfNoCore(t *testing.T) {
	want := api.Core{Preds: preds("p/2", "q/0"), Consts: consts("a", 1)}
	rule := api.Rule{Head: pat(-1), Pos: []api.Pattern{pat(0, v(0), v(1)), pat(1)}, Tests: []api.Test{{Op: api.OpLe, Left: c(0), Right: v(1)}}, Neg: []api.Pattern{pat(0, v(1), c(1))}, Vars: []string{"_", "X"}, Clause: -1}
	wantQuery(t, api.Core{}, parsedQuery(t, "a <= X, p(_, X), not p(X, 1), q."), want, rule)
}

func TestQueryOfATestAlone(t *testing.T) {
	k := firstCore()
	want := firstCore()
	want.Consts = append(want.Consts, consts(1, 2)...)
	wantQuery(t, k, parsedQuery(t, "1 < 2."), want, api.Rule{Head: pat(-1), Tests: []api.Test{{Op: api.OpLt, Left: c(4), Right: c(5)}}, Clause: -1})
}

func TestQueryOfWhatIsThere(t *testing.T) {
	k := firstCore()
	rule := api.Rule{Head: pat(-1), Pos: []api.Pattern{pat(1, c(3), v(0))}, Tests: []api.Test{{Op: api.OpGt, Left: v(0), Right: c(2)}}, Neg: []api.Pattern{pat(0, v(0), v(0)), pat(2, c(0), c(1))}, Vars: []string{"Y"}, Clause: -1}
	wantQuery(t, k, parsedQuery(t, "not p(Y, Y), q(c, Y), not r(a, b), Y > 3."), firstCore(), rule)
}

func TestQueryBringsNamesInTheirOrder(t *testing.T) {
	want := firstCore()
	want.Preds = append(want.Preds, preds("z/1", "y/0", "x/2")...)
	want.Consts = append(want.Consts, consts("z", 9, 8, "y", "x")...)
	rule := api.Rule{
		Head:   pat(-1),
		Pos:    []api.Pattern{pat(4), pat(5, c(7), c(8))},
		Tests:  []api.Test{{Op: api.OpNe, Left: c(5), Right: c(6)}},
		Neg:    []api.Pattern{pat(3, c(4)), pat(5, c(4), c(0))},
		Clause: -1,
	}
	wantQuery(t, firstCore(), parsedQuery(t, "not z(z), 9 != 8, y, x(y, x), not x(z, a)."), want, rule)
}

func TestQueryOfCoresThatAreNotFit(t *testing.T) {
	ls := parsedQuery(t, "q(X, X).")
	bad := api.Fault{Code: api.ErrArg}
	broken := func(change func(*api.Core)) api.Core {
		k := firstCore()
		change(&k)
		return k
	}
	for _, k := range []api.Core{
		broken(func(k *api.Core) { k.Preds[2].Name = "p" }),
		broken(func(k *api.Core) { k.Preds = append(k.Preds, api.Pred{Name: "r", Arity: 7}) }),
		broken(func(k *api.Core) { k.Preds = preds("/1", "/2") }),
		broken(func(k *api.Core) { k.Consts[3] = k.Consts[0] }),
		broken(func(k *api.Core) { k.Consts[3] = api.Const{} }),
		broken(func(k *api.Core) { k.Consts[0] = api.Const{Kind: api.KVar, Text: "X"} }),
		broken(func(k *api.Core) { k.Consts[1] = api.Const{Kind: api.KName, Text: "A"} }),
		broken(func(k *api.Core) { k.Consts[1] = api.Const{Kind: api.KInt, Text: "a"} }),
		broken(func(k *api.Core) { k.Consts = append(k.Consts, consts(3)...) }),
	} {
		wantNoQuery(t, k, ls, bad)
		wantNoQuery(t, k, nil, bad)
		wantNoQuery(t, k, parsedQuery(t, "q(X)."), bad)
	}
}

func TestQueriesThatAreNotWell(t *testing.T) {
	bad := api.Fault{Code: api.ErrArg}
	q := pos(atom(7, "q", name("a", 9)))
	for _, ls := range [][]api.Literal{
		nil, {}, slices.Repeat([]api.Literal{pos(atom(7, "p", name("a", 9), name("b", 12)))}, 17), {q, {Kind: 4}}, {q, {}}, {q, pos(atom(8, "Q"))},
		{pos(atom(8, "s", slices.Repeat([]api.Term{integer(1, 2)}, 9)...))}, {test(7, integer(1, 2), integer(1, 2))}, {q, test(1, integer(1, 2), api.Term{Off: 5})},
		{pos(atom(8, "s", variable("x", 10)))}, {{Kind: api.LPos, Atom: atom(1, "s"), Left: variable("X", 3)}},
	} {
		wantNoQuery(t, firstCore(), ls, bad)
	}
}

func TestSixteenLiterals(t *testing.T) {
	ls := slices.Repeat(parsedQuery(t, "q(X, a)."), 16)
	_, r, f := core.Query(firstCore(), ls)
	if f != (api.Fault{}) || len(r.Pos) != 16 || !slices.Equal(r.Vars, []string{"X"}) {
		t.Errorf("Query of 16 literals: %+v, %v", r, f)
	}
}

func TestQueryClashes(t *testing.T) {
	k := firstCore()
	for _, src := range []string{
		"@q.", "@q(a).", "@q(a, b, c).", "not @q(X).", "p(X, Y), @q(X), @r.", "s, @s(a).", "s(a), not @s.", "not s(a), @s.", "s(X), t, 1 < 2, @t(X), s.", "@r(a), s, s(a).",
		"s, @s(a), p.", "@p(X), Y < 1.",
	} {
		first, rest, _ := strings.Cut(src, "@")
		queryRefused(t, k, api.ErrClash, first+"@"+strings.ReplaceAll(rest, "@", ""))
	}
	l := neg(atom(30, "q"))
	l.Off = 77
	wantNoQuery(t, k, []api.Literal{l}, api.Fault{Code: api.ErrClash, Off: 30})
	l.Atom.Off = -1
	wantNoQuery(t, k, []api.Literal{l}, api.Fault{Code: api.ErrClash, Off: -1})
}

func TestQueryOverOddPredicates(t *testing.T) {
	k := api.Core{Preds: []api.Pred{{Name: "p", Arity: -1}, {Name: "q", Arity: 9}, {Name: "", Arity: 0}, {Name: "Not a name", Arity: 1}, {Name: "r", Arity: 1}}}
	queryRefused(t, k, api.ErrClash, "r(X), @p.")
	queryRefused(t, k, api.ErrClash, "r(X), @q.")
	queryRefused(t, k, api.ErrClash, "r(X), @p(X).")
	want := api.Core{Preds: append(slices.Clone(k.Preds), preds("s/1")...)}
	wantQuery(t, k, parsedQuery(t, "r(X), s(X)."), want, api.Rule{Head: pat(-1), Pos: []api.Pattern{pat(4, v(0)), pat(5, v(0))}, Vars: []string{"X"}, Clause: -1})
}

func TestQueryPredicatesLimit(t *testing.T) {
	k := built(t, wide(127), "")
	if got, _, f := core.Query(k, parsedQuery(t, "q(X), not q(X), p3, 1 < X.")); f != (api.Fault{}) || len(got.Preds) != 128 || got.Preds[127] != (api.Pred{Name: "q", Arity: 1}) {
		t.Errorf("a query that brings predicate number 128: %v, %v", got.Preds, f)
	}
	queryRefused(t, k, api.ErrPreds, "q(X), @r(X, Y), s, q.")
	queryRefused(t, k, api.ErrClash, "q(X), @q, r.")
	queryRefused(t, k, api.ErrClash, "q(X), @p3(X), r.")
	queryRefused(t, k, api.ErrPreds, "q(X), p4, not @r, p3(X).")
	k = built(t, wide(128), "")
	queryRefused(t, k, api.ErrPreds, "p127, @q.")
	queryRefused(t, k, api.ErrPreds, "not @q(X).")
	for i := range 40 {
		k.Preds = append(k.Preds, api.Pred{Name: "more" + strconv.Itoa(i)})
	}
	queryRefused(t, k, api.ErrPreds, "more39, @q.")
	if got, r, f := core.Query(k, parsedQuery(t, "more39, p0.")); f != (api.Fault{}) || len(got.Preds) != 168 || !same(r.Pos, []api.Pattern{pat(167), pat(0)}) {
		t.Errorf("a query over 168 predicates: %+v, %v", r, f)
	}
}

func TestQueryVariablesLimit(t *testing.T) {
	k := api.Core{}
	if _, r, f := core.Query(k, parsedQuery(t, sixteen+", A < B, not s(C).")); f != (api.Fault{}) || len(r.Vars) != 16 {
		t.Errorf("a query with 16 variables: %v, %v", r.Vars, f)
	}
	queryRefused(t, k, api.ErrVars, sixteen+", s(A, @Z).")
	queryRefused(t, k, api.ErrVars, sixteen+", s(A, @_).")
	queryRefused(t, k, api.ErrVars, sixteen+", not s(A, @Z, Y).")
	queryRefused(t, k, api.ErrVars, sixteen+", @Z < Y.")
	queryRefused(t, k, api.ErrVars, sixteen+", A < @Z.")
	queryRefused(t, k, api.ErrVars, "not z(Z), "+strings.Replace(sixteen, "P", "@P", 1)+".")
	queryRefused(t, k, api.ErrVars, "not z(_), "+strings.Replace(sixteen, "P", "@P", 1)+".")
	queryRefused(t, k, api.ErrRange, "not z(@Z), "+strings.Replace(sixteen, "P", "O", 1)+".")
	queryRefused(t, k, api.ErrClash, sixteen+", s(A, Z), @s.")
}

func TestQueryRange(t *testing.T) {
	k := firstCore()
	for _, src := range []string{
		"not q(@X, a).", "q(X, a), a < @_.", "q(X, a), not q(X, @_).", "q(_, a), @_ = 1.", "@X < Y.", "1 < @X, not q(X, Y).", "not q(@X, Y), Y < X.", "q(X, Y), X < Y, @Z < Y, not q(W, W).",
	} {
		queryRefused(t, k, api.ErrRange, src)
	}
	for _, src := range []string{"X < Y, q(X, Y).", "not q(X, Y), q(X, _), q(_, Y)."} {
		if _, _, f := core.Query(k, parsedQuery(t, src)); f != (api.Fault{}) {
			t.Errorf("Query of %s: %v", src, f)
		}
	}
}

// numbers is so many constants: 0, 1, ..
func numbers(n int) (cs []api.Const) {
	for i := range n {
		cs = append(cs, api.Const{Kind: api.KInt, Int: int64(i)})
	}
	return cs
}

func TestQueryConstantsLimit(t *testing.T) {
	k := api.Core{Consts: numbers(65535)}
	if got, r, f := core.Query(k, parsedQuery(t, "p(a, 7, a), a != 65534.")); f != (api.Fault{}) || len(got.Consts) != 65536 || !same(r.Pos, []api.Pattern{pat(0, c(65535), c(7), c(65535))}) {
		t.Errorf("a query that brings constant number 65536: %d, %+v, %v", len(got.Consts), r, f)
	}
	queryRefused(t, k, api.ErrFull, "p(1, a, 2, @b, c).")
	queryRefused(t, k, api.ErrFull, "p(a), @65535 != 65536.")
	queryRefused(t, k, api.ErrFull, "p(a), 3 != @\"a\".")
	queryRefused(t, k, api.ErrFull, "p(a), not p(@b), p(c).")
	queryRefused(t, k, api.ErrRange, "p(a, b), @X = 1.")
	k.Consts = numbers(65536)
	queryRefused(t, k, api.ErrFull, "p(1, @a).")
	k.Consts = numbers(65540)
	queryRefused(t, k, api.ErrFull, "p(65539, @a, b).")
	if got, r, f := core.Query(k, parsedQuery(t, "p(65539, 1).")); f != (api.Fault{}) || len(got.Consts) != 65540 || !same(r.Pos, []api.Pattern{pat(0, c(65539), c(1))}) {
		t.Errorf("a query over 65540 constants: %d, %+v, %v", len(got.Consts), r, f)
	}
}

func TestQueryTakesRulesAndFactsAsTheyAre(t *testing.T) {
	odd := api.Core{
		Preds:  preds("p/1"),
		Consts: consts("a"),
		Rules:  []api.Rule{{Head: pat(-7, v(9)), Pos: []api.Pattern{pat(3), pat(4, c(-1), v(2))}, Neg: []api.Pattern{pat(5, v(-1))}, Tests: []api.Test{{Op: 77, Left: v(3), Right: c(4)}}, Vars: []string{"x", "x", ""}, Clause: -8}, {}},
		Facts:  []api.Row{row(9, -1, 3), row(0), row(0)},
	}
	wantQuery(t, odd, parsedQuery(t, "p(a)."), odd, api.Rule{Head: pat(-1), Pos: []api.Pattern{pat(0, c(0))}, Clause: -1})
}

func TestQueryUponQuery(t *testing.T) {
	one, _, f := core.Query(firstCore(), parsedQuery(t, "s(X, d), not t(e)."))
	if f != (api.Fault{}) {
		t.Fatal(f)
	}
	want := one
	want.Consts = append(slices.Clone(one.Consts), consts("f")...)
	wantQuery(t, one, parsedQuery(t, "t(X), s(e, f)."), want, api.Rule{Head: pat(-1), Pos: []api.Pattern{pat(4, v(0)), pat(3, c(5), c(6))}, Vars: []string{"X"}, Clause: -1})
	queryRefused(t, one, api.ErrClash, "t(X), @s(X).")
}

// Back to names (P6)

func TestBackOfNoRule(t *testing.T) {
	for _, n := range []int{-1 << 62, -1, 1, 2, 1 << 62} {
		wantBack(t, firstCore(), n, api.Clause{}, api.ErrNone)
	}
	wantBack(t, api.Core{}, 0, api.Clause{}, api.ErrNone)
	broken := firstCore()
	broken.Rules[0].Head.Pred = 9
	wantBack(t, broken, 1, api.Clause{}, api.ErrNone)
}

func TestBackOfRulesThatPointAtNothing(t *testing.T) {
	for i, change := range []func(r *api.Rule){
		func(r *api.Rule) { r.Head.Pred = -1 }, func(r *api.Rule) { r.Head.Pred = 3 },
		func(r *api.Rule) { r.Pos[0].Pred = -1 }, func(r *api.Rule) { r.Pos[0].Pred = 3 },
		func(r *api.Rule) { r.Neg[0].Pred = -1 }, func(r *api.Rule) { r.Neg[0].Pred = 3 },
		func(r *api.Rule) { r.Pos = append(r.Pos, pat(3)) }, func(r *api.Rule) { r.Neg = append(r.Neg, pat(3)) },
		func(r *api.Rule) { r.Tests = append(r.Tests, api.Test{Op: 1, Left: c(0), Right: c(9)}) },
		func(r *api.Rule) { r.Vars = r.Vars[:1] }, func(r *api.Rule) { r.Vars = nil },
	} {
		k := firstCore()
		change(&k.Rules[0])
		if wantBack(t, k, 0, api.Clause{}, api.ErrArg); t.Failed() {
			t.Fatalf("change %d", i)
		}
	}
	for _, s := range []api.Slot{v(-1), v(2), v(1 << 62), c(-1), c(4), c(-1 << 62)} {
		for _, place := range []func(r *api.Rule) *api.Slot{
			func(r *api.Rule) *api.Slot { return &r.Head.Args[1] },
			func(r *api.Rule) *api.Slot { return &r.Pos[0].Args[0] },
			func(r *api.Rule) *api.Slot { return &r.Neg[0].Args[1] },
			func(r *api.Rule) *api.Slot { return &r.Tests[0].Left },
			func(r *api.Rule) *api.Slot { return &r.Tests[0].Right },
		} {
			k := firstCore()
			*place(&k.Rules[0]) = s
			wantBack(t, k, 0, api.Clause{}, api.ErrArg)
		}
	}
	k := firstCore()
	k.Preds, k.Consts = k.Preds[:2], k.Consts[:3]
	wantBack(t, k, 0, api.Clause{}, api.ErrArg)
}

func TestBackLooksAtNothingElse(t *testing.T) {
	k := api.Core{
		Preds:  []api.Pred{{Name: "", Arity: 4}, {Name: "P", Arity: -1}, {Name: "P"}},
		Consts: []api.Const{{}, {Kind: api.KVar, Text: "V"}, {Kind: 9, Int: 7, Text: "t"}},
		Rules: []api.Rule{
			{Head: pat(9)},
			{
				Head:   pat(2, c(2), v(2)),
				Pos:    []api.Pattern{pat(0), pat(1, slices.Repeat([]api.Slot{c(1)}, 20)...)},
				Tests:  slices.Repeat([]api.Test{{Op: -5, Left: v(0), Right: c(0)}}, 20),
				Neg:    []api.Pattern{pat(2, v(1))},
				Vars:   []string{"", "same", "same"},
				Clause: -3,
			},
			{},
		},
		Facts: []api.Row{row(9, 9)},
	}
	head := atom(0, "P", api.Term{Kind: 9, Int: 7, Text: "t"}, variable("same", 0))
	want := clause(head, pos(atom(0, "")), pos(atom(0, "P", slices.Repeat([]api.Term{variable("V", 0)}, 20)...)))
	want.Body = append(want.Body, slices.Repeat([]api.Literal{test(-5, variable("", 0), api.Term{})}, 20)...)
	want.Body = append(want.Body, api.Literal{Kind: api.LNeg, Atom: atom(0, "P", variable("same", 0))})
	wantBack(t, k, 1, want, api.OK)
	wantBack(t, k, 0, api.Clause{}, api.ErrArg)
	wantBack(t, k, 2, clause(atom(0, "")), api.OK)
}

func TestFact(t *testing.T) {
	k := firstCore()
	k.Preds = append(k.Preds, preds("n/0")...)
	wantFact(t, k, row(1, 3, 2), api.Fact{Pred: "q", Args: consts("c", 3)}, api.OK)
	wantFact(t, k, row(0, 0, 0), api.Fact{Pred: "p", Args: consts("a", "a")}, api.OK)
	wantFact(t, k, row(3), api.Fact{Pred: "n"}, api.OK)
	for _, r := range []api.Row{
		row(-1), row(4), row(1 << 62), row(-1, 0, 0), row(1), row(1, 0), row(1, 0, 0, 0), row(3, 0), row(1, 0, 4), row(1, 4, 0), row(1, -1, 0), row(1, 0, -1<<62), row(1, 1<<62, 0),
	} {
		wantFact(t, k, r, api.Fact{}, api.ErrArg)
	}
	wantFact(t, api.Core{}, api.Row{}, api.Fact{}, api.ErrArg)
}

func TestFactLooksAtNothingElse(t *testing.T) {
	k := api.Core{Preds: []api.Pred{{Name: "", Arity: 9}, {Name: "", Arity: -1}, {Name: "N"}}, Consts: []api.Const{{Kind: 8}, {Kind: 8}}, Rules: []api.Rule{{Head: pat(9)}}}
	wantFact(t, k, row(0, 0, 1, 0, 1, 0, 1, 0, 1, 0), api.Fact{Args: []api.Const{{Kind: 8}, {Kind: 8}, {Kind: 8}, {Kind: 8}, {Kind: 8}, {Kind: 8}, {Kind: 8}, {Kind: 8}, {Kind: 8}}}, api.OK)
	wantFact(t, k, row(1), api.Fact{}, api.ErrArg)
	wantFact(t, k, row(2), api.Fact{Pred: "N"}, api.OK)
}
