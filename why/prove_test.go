package why_test

import (
	"fmt"
	"runtime/debug"
	"slices"
	"strings"
	"testing"

	"edict/api"
	"edict/engine"
	"edict/why"
)

// Examples 1 and 4
func TestProve(t *testing.T) {
	e := rested(t, ways, "")
	wantProof(t, e, "t(a, c)", given("e(a, b)"), given("e(b, c)"), by("t(b, c)", 0, names("b", "c"), 1), by("t(a, c)", 1, names("a", "b", "c"), 0, 2))
	wantProof(t, e, "s(c)", given("n(c)"), by("s(c)", 2, names("c"), 0))
	wantProof(t, e, "t(a, b)", given("e(a, b)"), by("t(a, b)", 0, names("a", "b"), 0))
	wantProof(t, e, "n(b)", given("n(b)"))
}

// Example 10 of DOC.md
func TestProveOfPaths(t *testing.T) {
	e := rested(t, "edge(a, b). edge(b, c). path(X, Y) :- edge(X, Y). path(X, Z) :- path(X, Y), edge(Y, Z).", "")
	wantProof(t, e, "path(a, c)", given("edge(a, b)"), given("edge(b, c)"), by("path(a, b)", 0, names("a", "b"), 0), by("path(a, c)", 1, names("a", "b", "c"), 2, 1))
}

// Example 7, and other facts that are in no memory
func TestNoProof(t *testing.T) {
	e := rested(t, ways, "")
	long := api.Fact{Pred: "e", Args: append(names("a", "b"), make([]api.Const, 20)...)}
	for _, f := range []api.Fact{fact("t(c, a)"), fact("t(a)"), fact("t"), fact("x"), fact("n(d)"), fact("n(1)"), fact(`n("a")`), {}, {Pred: "N", Args: names("a")}, {Pred: "n", Args: []api.Const{{}}}, {Pred: "n", Args: []api.Const{{Kind: api.KVar, Text: "X"}}}, long} {
		wantNoProof(t, e, f, api.ErrNone)
		wantNoProof(t, nil, f, api.ErrState)
	}
	wantNoProof(t, nil, fact("n(a)"), api.ErrState)
	wantNoProof(t, load(t, "", ""), fact("n(a)"), api.ErrNone)
	wantNoProof(t, load(t, ways, ""), fact("t(a, b)"), api.ErrNone) // it did not run yet
}

// An initial fact is given, whichever text it stands in, and whatever fires with that head.
func TestGivenFacts(t *testing.T) {
	e := rested(t, "p(1). p(X) :- q(X).", "q(1). q(2). p(2). q(1).")
	if log := e.Log(); len(log) != 2 || log[0].Fresh || log[1].Fresh {
		t.Fatal(log)
	}
	for _, text := range []string{"p(1)", "p(2)", "q(1)", "q(2)"} {
		wantProof(t, e, text, given(text))
	}
}

// Two rules with the same head: the one that brought it counts, not one that fired later.
func TestTheStepThatBroughtIt(t *testing.T) {
	src := "p(X) :- q(X). p(X) :- r(X), q(_). p(a) :- r(b)."
	for _, k := range []struct {
		pick  int
		lines []api.Line
	}{
		{0, []api.Line{given("q(a)"), by("p(a)", 0, names("a"), 0)}},
		{1, []api.Line{given("q(a)"), given("r(a)"), by("p(a)", 1, names("a", "a"), 1, 0)}},
		{3, []api.Line{given("r(b)"), by("p(a)", 2, nil, 0)}},
	} {
		e := load(t, src, "q(a). r(a). r(b).")
		e.Run([]int{k.pick}, 1, most)
		wantProof(t, e, "p(a)", k.lines...)
		e.Run(nil, most, most)
		if len(e.Log()) != 4 || len(e.Facts()) != 5 {
			t.Fatal(e.Log())
		}
		wantProof(t, e, "p(a)", k.lines...)
	}
}

// Lines stand in the order in which the facts came, not in the order of the atoms.
func TestOrderOfComing(t *testing.T) {
	src := "a :- z. b :- z. c :- b, a, z. d :- c, a."
	lines := func(first string, firstRule int, second string, secondRule int, from ...int) []api.Line {
		return []api.Line{given("z"), by(first, firstRule, nil, 0), by(second, secondRule, nil, 0), by("c", 2, nil, from...), by("d", 3, nil, 3, from[1])}
	}
	wantProof(t, rested(t, src, "y. z."), "d", lines("a", 0, "b", 1, 2, 1, 0)...)
	e := load(t, src, "y. z.")
	e.Run([]int{1, 0}, most, most)
	wantProof(t, e, "d", lines("b", 1, "a", 0, 1, 2, 0)...)
}

// Each fact has one line, however many hang on it; two atoms that are the same fact have one number.
func TestOneLineEach(t *testing.T) {
	e := rested(t, "p(X) :- q(X), q(X). r(X, Y) :- p(X), q(Y), p(Y), q(X). top :- r(X, Y), r(Y, X), p(Y).", "q(b). q(a).")
	wantProof(t, e, "p(a)", given("q(a)"), by("p(a)", 0, names("a"), 0, 0))
	wantProof(t, e, "r(b, b)", given("q(b)"), by("p(b)", 0, names("b"), 0, 0), by("r(b, b)", 1, names("b", "b"), 1, 0, 1, 0))
	wantProof(t, e, "r(a, b)", given("q(b)"), given("q(a)"), by("p(a)", 0, names("a"), 1, 1), by("p(b)", 0, names("b"), 0, 0), by("r(a, b)", 1, names("a", "b"), 2, 0, 3, 1))
	wantProof(t, e, "top", given("q(a)"), by("p(a)", 0, names("a"), 0, 0), by("r(a, a)", 1, names("a", "a"), 1, 0, 1, 0), by("top", 2, names("a", "a"), 2, 2, 1))
}

// What a rule negates, and its tests, are no lines; without a positive atom there is nothing to come from.
func TestRulesWithoutPositiveAtoms(t *testing.T) {
	e := rested(t, `p(5, "x y") :- not q, 1 < a. r(X) :- p(X, "x y"), not q.`, "")
	wantProof(t, e, `p(5, "x y")`, by(`p(5, "x y")`, 0, nil))
	wantProof(t, e, "r(5)", by(`p(5, "x y")`, 0, nil), by("r(5)", 1, []api.Const{number(5)}, 0))
	wantDepth(t, prove(t, e, fact("r(5)")), 1, 2)
}

// A number, a name and a text that are written alike are three facts.
func TestConstantsAlike(t *testing.T) {
	e := rested(t, "p(X, Y) :- q(X), r(X, Y), q(Y).", `q(1). q("1"). q(a). q("a"). r(1, "1"). r("a", a). r(a, 1). r("1", "a").`)
	text := api.Const{Kind: api.KText, Text: "1"}
	wantProof(t, e, `p(1, "1")`, given("q(1)"), given(`q("1")`), given(`r(1, "1")`), by(`p(1, "1")`, 0, []api.Const{number(1), text}, 0, 2, 1))
	wantProof(t, e, `p(a, 1)`, given("q(1)"), given(`q(a)`), given(`r(a, 1)`), by(`p(a, 1)`, 0, []api.Const{name("a"), number(1)}, 1, 2, 0))
}

// Runs in pieces, budgets, forks and resets
func TestProveAsItGoes(t *testing.T) {
	e := load(t, ways, "")
	e.Run(nil, 1, most)
	first := []api.Line{given("e(a, b)"), by("t(a, b)", 0, names("a", "b"), 0)}
	wantProof(t, e, "t(a, b)", first...)
	wantNoProof(t, e, fact("t(b, c)"), api.ErrNone)
	fork := e.Fork()
	e.Run([]int{-1}, 1, most)
	if out := e.Run(nil, most, 0); out.Stop != api.MemBudget {
		t.Fatal(out)
	}
	wantProof(t, e, "t(b, c)", given("e(b, c)"), by("t(b, c)", 0, names("b", "c"), 0))
	wantNoProof(t, fork, fact("t(b, c)"), api.ErrNone)
	e.Reset()
	wantNoProof(t, e, fact("t(a, b)"), api.ErrNone)
	wantProof(t, e, "e(b, c)", given("e(b, c)"))
	wantProof(t, fork, "t(a, b)", first...)
	e.Run([]int{1}, most, most)
	wantProof(t, e, "t(a, b)", first...)
	if lines := prove(t, e, fact("t(a, c)")); len(lines) != 4 {
		t.Errorf("%v", lines)
	}
}

// counter is an engine in whose memory each fact of at hangs on the one that came ahead of it: as many as the square of count.
func counter(t *testing.T, count int) (*engine.Engine, api.Fact) {
	t.Helper()
	var text strings.Builder
	for n := range count - 1 {
		fmt.Fprintf(&text, "next(%d, %d).", n, n+1)
	}
	e := rested(t, fmt.Sprintf("at(0, 0). at(X, Z) :- at(X, Y), next(Y, Z). at(Z, 0) :- at(X, %d), next(X, Z).", count-1), text.String())
	last := number(int64(count - 1))
	return e, api.Fact{Pred: "at", Args: []api.Const{last, last}}
}

// A proof as deep as it is long needs no deep stack.
func TestDeepProof(t *testing.T) {
	e, last := counter(t, 200)
	defer debug.SetMaxStack(debug.SetMaxStack(1 << 20))
	lines := prove(t, e, last)
	if len(lines) != 200*200+199 || why.Check(e.Core(), e.Facts(), lines) != -1 {
		t.Errorf("%d lines", len(lines))
	}
	depths, _ := why.Depth(lines)
	if most := slices.Max(depths); most != 200*200-1 {
		t.Errorf("depth %d", most)
	}
}

// Where many ways lead to the same facts, each is gone once: here there are more than 2 to the 60.
func TestManyWays(t *testing.T) {
	src := "p0 :- z."
	for n := range 60 {
		src += fmt.Sprintf("p%d :- p%d, p%d. q%d :- p%d, p%d.", n+1, n, n, n, n, n)
	}
	e := rested(t, src, "z.")
	lines := prove(t, e, fact("p60"))
	if len(lines) != 62 {
		t.Errorf("%d lines: %v", len(lines), lines)
	}
	// The same, deeper than the proof is gone through at once.
	e, last := counter(t, 60)
	if lines := prove(t, e, last); len(lines) != 60*60+59 {
		t.Errorf("%d lines", len(lines))
	}
}
