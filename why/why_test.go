package why_test

import (
	"math"
	"strconv"
	"strings"
	"testing"

	"edict/api"
	"edict/why"
)

func TestDepth(t *testing.T) {
	wantDepth(t, nil)
	wantDepth(t, []api.Line{}, []int{}...)
	wantDepth(t, prove(t, rested(t, ways, ""), fact("t(a, c)")), 0, 0, 1, 2)
	// Nothing else is looked at: neither facts nor rules, nor what a given line has in From.
	wantDepth(t, []api.Line{{Rule: 5}, {Rule: -1, From: []int{7}}, {From: []int{0, 1}}, {Rule: -2, From: []int{1}}, {Rule: math.MinInt, From: []int{2, 2, 0}}, {Rule: -1, From: []int{-1, 4}}, {Rule: 9, From: []int{5, 4, 3}}, {Rule: -1}}, 1, 0, 2, 1, 3, 0, 4, 0)
	for _, l := range []api.Line{{From: []int{1}}, {From: []int{2}}, {From: []int{-1}}, {From: []int{0, 0, 1}}, {From: []int{0, math.MinInt}}, {Rule: -2, From: []int{math.MaxInt}}} {
		for _, behind := range []api.Line{{Rule: -1}, {}, {From: []int{5}}} {
			if depths, errno := why.Depth([]api.Line{{Rule: -1}, l, behind}); len(depths) > 0 || errno != api.ErrArg {
				t.Errorf("Depth with %v = %v, %v", l, depths, errno)
			}
		}
	}
}

// Example 2
func TestText(t *testing.T) {
	e := rested(t, ways, "")
	wantText(t, prove(t, e, fact("t(a, c)")), "0: e(a, b) given\n1: e(b, c) given\n2: t(b, c) by 0 {b, c} from 1\n3: t(a, c) by 1 {a, b, c} from 0, 2\n")
	wantText(t, nil, "")
	wantText(t, []api.Line{given("p")}, "0: p given\n")
	wantText(t, []api.Line{by("p", 0, nil), by(`q(-5, "a\n")`, -5, []api.Const{number(-5), {Kind: api.KText, Text: "a\n"}}), by("r", math.MaxInt, names("x"), -9, math.MinInt, 3)},
		"0: p by 0 {}\n1: q(-5, \"a\\n\") by -5 {-5, \"a\\n\"}\n2: r by 9223372036854775807 {x} from -9, -9223372036854775808, 3\n")
	wantText(t, []api.Line{by("p", 7, nil, 0), by("p", 7, []api.Const{{Kind: api.KText}})}, "0: p by 7 {} from 0\n1: p by 7 {\"\"}\n")
	// Of a given line Subst and From are not looked at.
	wantText(t, []api.Line{{Fact: fact("q"), Rule: -1, Subst: []api.Const{{}}, From: []int{9}}}, "0: q given\n")
	var lines []api.Line
	var want strings.Builder
	for n := range 12 {
		lines = append(lines, given("p"))
		want.WriteString([]string{"0", "1", "2", "3", "4", "5", "6", "7", "8", "9", "10", "11"}[n] + ": p given\n")
	}
	wantText(t, lines, want.String())
}

// One line without a text, and the whole has none.
func TestNoText(t *testing.T) {
	wrong := []api.Const{{}, {Kind: api.KVar, Text: "X"}, {Kind: api.KName, Text: "X"}, {Kind: api.KInt, Text: "x"}, {Kind: api.KText, Text: strings.Repeat("x", api.MaxText+1)}, name("not")}
	lines := []api.Line{{}, {Rule: -1}, {Fact: api.Fact{Pred: "Q"}, Rule: -1}, {Fact: api.Fact{Pred: "not"}}, {Fact: api.Fact{Pred: "p", Args: make([]api.Const, 1)}}, {Fact: api.Fact{Pred: "p", Args: names("a", "b", "c", "d", "e", "f", "g", "h", "i")}, Rule: -1}}
	for _, c := range wrong {
		lines = append(lines, api.Line{Fact: fact("p"), Subst: []api.Const{c}}, api.Line{Fact: fact("p"), Rule: -2, Subst: []api.Const{name("a"), c}}, api.Line{Fact: api.Fact{Pred: "p", Args: []api.Const{c}}, Rule: -1}, api.Line{Fact: fact("p"), Rule: 3, Subst: []api.Const{c, name("a")}, From: []int{0}})
	}
	for _, l := range lines {
		wantText(t, []api.Line{l}, "")
		wantText(t, []api.Line{given("p"), l}, "")
		wantText(t, []api.Line{l, given("p")}, "")
	}
}

// Example 5
func TestAgainst(t *testing.T) {
	e := rested(t, ways, "")
	wantAgainst(t, e, 2, names("a"), "3 0 t(a, c)")
	wantAgainst(t, e, 2, names("b"), "2 0 -", "3 0 t(b, c)")
	wantAgainst(t, e, 2, names("d"), "1 0 n(d)")
	wantAgainst(t, e, 2, names("c"))
	wantNotAgainst(t, e, 2, nil, api.ErrArg)
	wantNotAgainst(t, e, 3, names("c"), api.ErrNone)
	wantAgainst(t, e, 1, names("c", "b", "a"), "1 0 e(c, b)", "1 1 t(b, a)")
	wantAgainst(t, e, 1, names("a", "b", "c"))
	// In front of any run.
	wantAgainst(t, load(t, ways, ""), 1, names("a", "b", "c"), "1 1 t(b, c)")
	wantAgainst(t, load(t, ways, ""), 2, names("a"))
}

// All that stands against it is told, in the chain's order: not in the text's.
func TestAgainstAll(t *testing.T) {
	e := rested(t, `h(Z, 9) :- not r(X), 1 < 2, p(X, Y), X > Y, not r(k), not s, q(Y, Z), X = "x", q(Z, Z), p(1, 2), not t(9, X, Y).`, `p(1, 2). p(3, 1). r(k). r(3). s. t(9, 3, 1).`)
	text := api.Const{Kind: api.KText, Text: "x"}
	wantAgainst(t, e, 0, []api.Const{number(3), number(1), name("k")}, "1 1 q(1, k)", "1 2 q(k, k)", "2 2 -", "3 0 r(3)", "3 1 r(k)", "3 2 s", "3 3 t(9, 3, 1)")
	wantAgainst(t, e, 0, []api.Const{text, number(1), name("k")}, `1 0 p("x", 1)`, "1 1 q(1, k)", "1 2 q(k, k)", "3 1 r(k)", "3 2 s")
	wantAgainst(t, e, 0, []api.Const{number(1), number(2), text}, `1 1 q(2, "x")`, `1 2 q("x", "x")`, "2 1 -", "2 2 -", "3 1 r(k)", "3 2 s")
	wantAgainst(t, e, 0, []api.Const{name("new"), text, number(-77)}, `1 0 p(new, "x")`, `1 1 q("x", -77)`, "1 2 q(-77, -77)", "2 1 -", "2 2 -", "3 1 r(k)", "3 2 s")
	bare := rested(t, "p :- 1 > 2, not q, q, not r.", "q.")
	wantAgainst(t, bare, 0, nil, "2 0 -", "3 0 q")
	wantAgainst(t, rested(t, "p :- 2 > 1, q, not r.", "q."), 0, []api.Const{})
}

func TestAgainstErrors(t *testing.T) {
	e := rested(t, ways, "")
	for _, rule := range []int{-1, 3, math.MinInt, math.MaxInt} {
		wantNotAgainst(t, e, rule, names("c"), api.ErrNone)
		wantNotAgainst(t, e, rule, nil, api.ErrNone)
		wantNotAgainst(t, e, rule, make([]api.Const, 1), api.ErrNone)
	}
	for _, subst := range [][]api.Const{nil, names("a", "b"), names("X"), {{}}, names("not"), {{Kind: api.KVar, Text: "X"}}, {{Kind: api.KName, Text: "a", Int: 1}}, {{Kind: api.KText, Text: strings.Repeat("x", 256)}}} {
		wantNotAgainst(t, e, 2, subst, api.ErrArg)
	}
	wantNotAgainst(t, e, 1, []api.Const{name("a"), {}, name("c")}, api.ErrArg)
	wantNotAgainst(t, e, 1, []api.Const{name("a"), name("b"), {}}, api.ErrArg)
	for _, rule := range []int{-1, 0, 1, 3} {
		wantNotAgainst(t, nil, rule, nil, api.ErrState)
		wantNotAgainst(t, nil, rule, names("a", "b"), api.ErrState)
	}
	wantNotAgainst(t, load(t, "p.", ""), 0, nil, api.ErrNone) // a clause without a body is no rule
}

// Example 6
func TestReach(t *testing.T) {
	e := rested(t, ways, "")
	wantReach(t, e, 2, fact("s(a)"), 2)
	wantReach(t, e, 2, fact("s(b)"), 1)
	wantReach(t, e, 2, fact("s(c)"), 3)
	wantReach(t, e, 2, fact("s(d)"), -1)
	wantReach(t, e, 0, fact("s(a)"), -1)
	wantReach(t, e, 1, fact("t(c, a)"), 0)
	wantReach(t, e, 1, fact("t(a, a)"), 1)
	wantReach(t, e, 1, fact("t(a, c)"), 2)
	wantReach(t, e, 1, fact("t(b, c)"), 1)
}

// The head's constants and variables that stand twice; the conditions in the chain's order; the best of all substitutions.
func TestReachFar(t *testing.T) {
	e := rested(t, "h(X, X, 5) :- not n(X, Z), q(X, Y), Y < Z, q(Y, Z), Z != X, not m.", "q(1, 2). q(2, 3). q(2, 1). q(4, 4). q(4, 5). q(5, 6). q(6, 7). q(7, 8). n(5, 7). n(6, 8). m0.")
	ints := func(all ...int64) (f api.Fact) {
		f.Pred = "h"
		for _, n := range all {
			f.Args = append(f.Args, number(n))
		}
		return f
	}
	wantReach(t, e, 0, ints(1, 1, 5), 6) // by 1, 2, 3: of the two that begin with q(1, 2), the other one fails a test
	wantReach(t, e, 0, ints(2, 2, 5), 3) // by 2, 1, 2, where 2 != 2 fails
	wantReach(t, e, 0, ints(3, 3, 5), 0)
	wantReach(t, e, 0, ints(4, 4, 5), 6) // by 4, 5, 6
	wantReach(t, e, 0, ints(5, 5, 5), 4) // n(5, 7)
	wantReach(t, e, 0, ints(7, 7, 5), 1)
	wantReach(t, e, 0, ints(1, 2, 5), -1)
	wantReach(t, e, 0, ints(1, 1, 1), -1)
	wantReach(t, e, 0, ints(1, 1), -1)
	wantReach(t, e, 0, ints(1, 1, 5, 5), -1)
	wantReach(t, e, 0, ints(9, 9, 5), -1)
	wantReach(t, e, 0, ints(), -1)
	wantReach(t, e, 0, api.Fact{Pred: "q", Args: ints(1, 1, 5).Args}, -1)
	// With m in memory: one less.
	with := rested(t, "h(X) :- not n(X), q(X), not m, 1 < 2.", "q(1). m.")
	wantReach(t, with, 0, ints(1), 3)
}

// Rules without positive atoms, variables or constants
func TestReachOfBareRules(t *testing.T) {
	e := rested(t, "p :- 1 > 2, not q. p :- 1 < 2, not q, not r. p :- not r, not q. p :- not q. p :- q, r, q. p :- r, q. h(0) :- s. h(1) :- r.", "r.")
	for rule, want := range []int{0, 2, 0, 1, 0, 1, -1, -1} {
		wantReach(t, e, rule, fact("p"), want)
	}
	for n, want := range []string{"-1 -1 -1 -1 -1 -1 0 -1", "-1 -1 -1 -1 -1 -1 -1 1", "-1 -1 -1 -1 -1 -1 -1 -1"} {
		for rule, reach := range strings.Fields(want) {
			wantReach(t, e, rule, api.Fact{Pred: "h", Args: []api.Const{number(int64(n))}}, map[string]int{"-1": -1, "0": 0, "1": 1}[reach])
		}
	}
	// Without a constant there is no substitution of a rule that has variables.
	none := rested(t, "p :- r, q(X). p :- r. p :- q(_), r. p :- not r. p :- r, r, not s, not r.", "r.")
	for rule, want := range []int{-1, 1, -1, 0, 3} {
		wantReach(t, none, rule, fact("p"), want)
		wantReach(t, none, rule, fact("p(a)"), -1)
	}
	one := rested(t, "p :- r, q(X). p :- q(X), q(_), r.", "r. s(a).")
	wantReach(t, one, 0, fact("p"), 1)
	wantReach(t, one, 1, fact("p"), 0)
}

// Rules with a little fewer than the 2147483648 substitutions that the document promises: whatever cannot be better than what was found is left out.
func TestReachSoon(t *testing.T) {
	var text strings.Builder
	for n := range 1290 {
		text.WriteString("q(" + strconv.Itoa(n) + ").")
	}
	e := load(t, "p :- q(X), q(Y), q(Z), X < 0, not r. p :- q(X), q(Y), q(Z), 1 < 2, not q(X). h(Y) :- q(X), q(Y), q(Z), q(Y), Y < 0, not q(Z). p :- q(_), q(_), q(_). p :- q(X), q(Y), q(Z), r. p :- q(X), q(Y), q(Z), s(X), q(X). h(X) :- q(Y), q(Z), q(X), q(Y), s(X). p :- q(X), q(Y), q(Z), X = 0, Y = 0, Z < 0.", text.String())
	wantReach(t, e, 0, fact("p"), 3)
	wantReach(t, e, 1, fact("p"), 4)
	wantReach(t, e, 2, fact("h(7)"), 4)
	wantReach(t, e, 2, fact("h(-1)"), -1)
	wantReach(t, e, 3, fact("p"), 3)
	wantReach(t, e, 4, fact("p"), 3)
	wantReach(t, e, 5, fact("p"), 3)
	wantReach(t, e, 6, fact("h(8)"), 4)
	wantReach(t, e, 7, fact("p"), 5)
}

func TestReachErrors(t *testing.T) {
	e := rested(t, ways, "")
	for _, rule := range []int{-1, 3, math.MinInt, math.MaxInt} {
		for _, f := range []api.Fact{fact("s(a)"), {}} {
			if got, errno := why.Reach(e, rule, f); got != 0 || errno != api.ErrNone {
				t.Errorf("Reach(%d) = %d, %v", rule, got, errno)
			}
			if got, errno := why.Reach(nil, rule, f); got != 0 || errno != api.ErrState {
				t.Errorf("Reach(nil, %d) = %d, %v", rule, got, errno)
			}
		}
	}
	if got, errno := why.Reach(nil, 0, fact("s(a)")); got != 0 || errno != api.ErrState {
		t.Errorf("Reach(nil) = %d, %v", got, errno)
	}
	// A goal that is no fact is no head.
	for _, f := range []api.Fact{{}, {Pred: "s"}, {Pred: "s", Args: make([]api.Const, 1)}, {Pred: "S", Args: names("a")}, {Pred: "s", Args: names("X")}, {Pred: "s", Args: []api.Const{{Kind: api.KName, Text: "a", Int: 1}}}, {Pred: "s", Args: []api.Const{{Kind: api.KText, Text: "a"}}}, {Pred: "s", Args: make([]api.Const, 30)}, {Pred: "s", Args: names("a", "a")}} {
		wantReach(t, e, 2, f, -1)
	}
}
