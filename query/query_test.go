package query_test

import (
	"fmt"
	"strings"
	"testing"

	"edict/api"
	"edict/engine"
	"edict/query"
)

func vars(names ...string) []string { return names }

func TestExamples(t *testing.T) {
	e := rested(t, paths, nodes)
	wantAsk(t, e, "path(a, X).", 10, vars("X"), []string{"b", "c"}, false)
	wantAsk(t, e, "path(X, Y), X < Y.", 2, vars("X", "Y"), []string{"a b", "a c"}, true)
	wantAsk(t, e, "lone(X), not edge(X, X).", 0, vars("X"), nil, true)
	wantAsk(t, e, "path(a, d).", 5, nil, nil, false)
	wantAsk(t, e, "path(a, c).", 5, nil, []string{""}, false)
	wantAsk(t, e, "edge(_, X).", 9, vars("_", "X"), []string{"a b", "b c"}, false)
	wantAsk(t, e, "node(X), not seen(X, 5).", 9, vars("X"), []string{"a", "b", "c", "d"}, false)
	wantAsk(t, e, "node(X), X = zebra.", 9, vars("X"), nil, false)
	wantRefused(t, e, "path(X).", 9, api.Fault{Code: api.ErrClash})
	wantRefused(t, e, "node(X), not path(X, Y).", 9, api.Fault{Code: api.ErrRange, Off: 21})
	wantRefused(t, e, "node(X)", 9, api.Fault{Code: api.ErrEnd, Off: 7})
	wantRefused(t, e, "node(X)", -1, api.Fault{Code: api.ErrArg})
	wantAsk(t, e, "2 < a, not edge(b, a).", 9, nil, []string{""}, false)
	if count, fault := query.Count(e, "node(X), node(Y)."); count != 16 || fault != (api.Fault{}) {
		t.Errorf("Count = %d, %v", count, fault)
	}
	wantAny(t, e, []string{"lone(a).", "p(", "path(X, c).", "node(X)."}, 2, api.Fault{}, api.Fault{Code: api.ErrEnd, Off: 2}, api.Fault{}, api.Fault{})
}

// The same of every call.
func TestAnswers(t *testing.T) {
	e := rested(t, paths, nodes)
	wantAnswers(t, e, "path(a, X).", vars("X"), "b", "c")
	wantAnswers(t, e, "path(X, Y), X < Y.", vars("X", "Y"), "a b", "a c", "b c")
	wantAnswers(t, e, "path(X, Y), X > Y.", vars("X", "Y"))
	wantAnswers(t, e, "lone(X), not edge(X, X).", vars("X"), "d")
	wantAnswers(t, e, "path(a, d).", nil)
	wantAnswers(t, e, "path(a, c).", nil, "")
	wantAnswers(t, e, "edge(_, X).", vars("_", "X"), "a b", "b c")
	wantAnswers(t, e, "edge(_, _), edge(_, b).", vars("_", "_", "_"), "a b a", "b c a")
	wantAnswers(t, e, "node(X), not seen(X, 5).", vars("X"), "a", "b", "c", "d")
	wantAnswers(t, e, "seen(X, 5), node(X).", vars("X"))
	wantAnswers(t, e, "node(X), X = zebra.", vars("X"))
	wantAnswers(t, e, "node(X), X < zebra, 5 < X, X < \"\".", vars("X"), "a", "b", "c", "d")
	wantAnswers(t, e, "node(X), node(Y), X != Y, Y = c.", vars("X", "Y"), "a c", "b c", "d c")
	wantAnswers(t, e, "edge(Y, X), edge(X, Z).", vars("Y", "X", "Z"), "a b c")
	wantAnswers(t, e, "not edge(Y, X), node(Y), X >= c, node(X).", vars("Y", "X"), "a c", "a d", "b d", "c c", "c d", "d c", "d d")
	wantAnswers(t, e, "node(A), node(A), node(A).", vars("A"), "a", "b", "c", "d")
	wantAnswers(t, e, "edge(X, X).", vars("X"))
}

// DOC.md's example 9
func TestWholeExample(t *testing.T) {
	e := rested(t, `edge(a, b). edge(b, c). path(X, Y) :- edge(X, Y). path(X, Z) :- path(X, Y), edge(Y, Z).
		node(X) :- edge(X, _). node(Y) :- edge(_, Y). apart(X, Y) :- node(X), node(Y), not path(X, Y).`, "")
	wantAnswers(t, e, "apart(X, Y), X < Y.", vars("X", "Y"))
	wantAnswers(t, e, "apart(c, X).", vars("X"), "a", "b", "c")
	wantAnswers(t, e, "not path(c, a).", nil, "")
	wantAnswers(t, e, "not path(a, c).", nil)
}

// A query without positive atoms has no variables, and one answer or none.
func TestWithoutPositiveAtoms(t *testing.T) {
	e := rested(t, "p :- not q.", `r(a, 2). s("a").`)
	wantAnswers(t, e, "2 < a, not r(2, a).", nil, "")
	wantAnswers(t, e, "2 < a, not r(a, 2).", nil)
	wantAnswers(t, e, "2 > a, not r(2, a).", nil)
	wantAnswers(t, e, "not p.", nil)
	wantAnswers(t, e, "not q.", nil, "")
	wantAnswers(t, e, "not unknown(9, new).", nil, "")
	wantAnswers(t, e, "new = new.", nil, "")
	wantAnswers(t, e, "new != new.", nil)
	wantAnswers(t, e, `new < "new", 1 <= 1, -5 < 5, "" > z.`, nil, "")
	wantAnswers(t, e, "p.", nil, "")
	wantAnswers(t, e, "q.", nil)
	wantAnswers(t, e, "unknown.", nil)
	wantAnswers(t, e, "p, p, not q.", nil, "")
}

// Sorted is by the constants place by place, not by their ids, nor by the order in which rows came.
func TestSorted(t *testing.T) {
	e := rested(t, "", `p("a", 1). p(b, 2). p(10, 3). p(9, "b"). p(a, a). p(-1, 7). p("", 0). p(9, a). p(9, 10). p("B", 4). q(z). q(5). q("y"). q(-5).`)
	wantAnswers(t, e, "p(X, Y).", vars("X", "Y"), "-1 7", "9 10", "9 a", `9 "b"`, "10 3", "a a", "b 2", `"" 0`, `"B" 4`, `"a" 1`)
	wantAnswers(t, e, "p(_, Y).", vars("_", "Y"), "-1 7", "9 10", "9 a", `9 "b"`, "10 3", "a a", "b 2", `"" 0`, `"B" 4`, `"a" 1`)
	wantAnswers(t, e, "q(X), p(9, Y), X != z, X != \"y\".", vars("X", "Y"), "-5 10", "-5 a", `-5 "b"`, "5 10", "5 a", `5 "b"`)
	wantAnswers(t, e, "p(9, Y), q(X), X > 0, X < a.", vars("Y", "X"), "10 5", "a 5", `"b" 5`)
	wantAnswers(t, e, "p(X, X).", vars("X"), "a")
}

// Which place of a row is a new variable's differs from pattern to pattern.
func TestSortedByVariables(t *testing.T) {
	e := rested(t, "", "t(3, x, 1). t(1, x, 2). t(2, x, 1). t(1, y, 1). t(2, x, 2). t(1, x, 1). u(2). u(1). u(3).")
	wantAnswers(t, e, "u(C), t(A, x, C).", vars("C", "A"), "1 1", "1 2", "1 3", "2 1", "2 2")
	wantAnswers(t, e, "u(A), t(A, B, C).", vars("A", "B", "C"), "1 x 1", "1 x 2", "1 y 1", "2 x 1", "2 x 2", "3 x 1")
	wantAnswers(t, e, "u(B), t(A, _, B), u(A).", vars("B", "A", "_"), "1 1 x", "1 1 y", "1 2 x", "1 3 x", "2 1 x", "2 2 x")
	wantAnswers(t, e, "t(A, B, A), u(C), C > A.", vars("A", "B", "C"), "1 x 2", "1 x 3", "1 y 2", "1 y 3", "2 x 3")
}

// The answers are those over the memory as it is: behind Load, between steps, behind Reset.
func TestMemoryAsItIs(t *testing.T) {
	e := load(t, paths, nodes)
	wantAnswers(t, e, "path(X, Y).", vars("X", "Y"))
	e.Run([]int{1}, 1, most)
	wantAnswers(t, e, "path(X, Y).", vars("X", "Y"), "b c")
	second := e.Fork()
	e.Run(nil, most, most)
	wantAnswers(t, e, "path(X, Y).", vars("X", "Y"), "a b", "a c", "b c")
	wantAnswers(t, second, "path(X, Y).", vars("X", "Y"), "b c")
	e.Reset()
	wantAnswers(t, e, "path(X, Y).", vars("X", "Y"))
	wantAnswers(t, e, "node(X).", vars("X"), "a", "b", "c", "d")
}

func TestEmptyEngine(t *testing.T) {
	e := load(t, "", "")
	wantAnswers(t, e, "p(X).", vars("X"))
	wantAnswers(t, e, "not p(a).", nil, "")
	wantAnswers(t, e, "p.", nil)
	wantFault(t, e, "p(X), p.", api.ErrClash, 6)
}

func TestNoEngine(t *testing.T) {
	none := api.Fault{Code: api.ErrState}
	for _, text := range []string{"p.", "(", "", "p(X)", "p(X), p.", strings.Repeat(" ", api.MaxSource+1)} {
		wantFault(t, nil, text, api.ErrState, 0)
		for _, limit := range []int{-1, api.MaxAnswers + 1} {
			wantRefused(t, nil, text, limit, none)
		}
	}
	wantAny(t, nil, nil, -1)
	wantAny(t, nil, []string{"p.", "(", "q(X)."}, -1, none, none, none)
}

// A limit that may not be is told ahead of the query's fault.
func TestLimits(t *testing.T) {
	e := rested(t, paths, nodes)
	for _, text := range []string{"node(X).", "node(X)", "node(X), node.", ""} {
		for _, limit := range []int{-1, -4096, api.MaxAnswers + 1, 1 << 40, -1 << 63, 1<<63 - 1} {
			wantRefused(t, e, text, limit, api.Fault{Code: api.ErrArg})
		}
	}
	e = rested(t, "", numbers("p", api.MaxAnswers))
	wantCount := func(text string, limit int, count int, wantMore bool) {
		t.Helper()
		names, answers, more, fault := query.Ask(e, text, limit)
		if len(names) == 0 || len(answers) != count || more != wantMore || fault != (api.Fault{}) {
			t.Errorf("Ask(%q, %d) = %q, %d answers, %v, %v", text, limit, names, len(answers), more, fault)
		}
		for num, a := range answers {
			if last := a.Row[len(a.Row)-1]; last.Int != int64(num) {
				t.Fatalf("answer %d is %v", num, a)
			}
		}
	}
	wantCount("p(X).", api.MaxAnswers, api.MaxAnswers, false)
	wantCount("p(X).", api.MaxAnswers-1, api.MaxAnswers-1, true)
	wantCount("p(_), p(X).", api.MaxAnswers, api.MaxAnswers, true)
}

// A text's form, by chapters 2 and 3.
func TestFaultsOfForm(t *testing.T) {
	e := rested(t, paths, nodes)
	wantFault(t, e, "", api.ErrEnd, 0)
	wantFault(t, e, "node(X)", api.ErrEnd, 7)
	wantFault(t, e, "node(X) :- a.", api.ErrSyntax, 8)
	wantFault(t, e, "node(X). node(X).", api.ErrSyntax, 9)
	wantFault(t, e, "node(#).", api.ErrByte, 5)
	wantFault(t, e, `node("a).`, api.ErrQuote, 5)
	wantFault(t, e, "node(99999999999999999999).", api.ErrInt, 5)
	wantFault(t, e, "p(1,2,3,4,5,6,7,8,9).", api.ErrArity, 18)
	wantFault(t, e, strings.Repeat("a,", 16)+"a.", api.ErrBody, 32)
	wantFault(t, e, strings.Repeat(" ", api.MaxSource)+"(", api.ErrLong, 0)
	wantAnswers(t, e, strings.Repeat(" ", api.MaxSource-8)+"lone(X).", vars("X"), "d")
	wantAnswers(t, e, strings.Repeat("node(X),", 15)+"lone(X).", vars("X"), "d")
}

// What chapter 7 tells of a query.
func TestFaultsOfNames(t *testing.T) {
	e := rested(t, paths, nodes)
	wantFault(t, e, "path(X).", api.ErrClash, 0)
	wantFault(t, e, "node(X), not path(X).", api.ErrClash, 13)
	wantFault(t, e, "seen(X), seen(X, X).", api.ErrClash, 9)
	wantFault(t, e, "not seen, node(X), not seen(X).", api.ErrClash, 23)
	wantFault(t, e, "node(X), not path(X, Y).", api.ErrRange, 21)
	wantFault(t, e, "node(X), not edge(X, _).", api.ErrRange, 21)
	wantFault(t, e, "node(X), Y = X.", api.ErrRange, 9)
	wantFault(t, e, "node(_), _ = a.", api.ErrRange, 9)
	wantFault(t, e, "not edge(A, B).", api.ErrRange, 9)
	wantFault(t, e, "not node(Y), path(X).", api.ErrClash, 13) // clashes are told ahead of what is not bound
}

func TestFaultsOfNumbers(t *testing.T) {
	sixteen := "p(A,B,C,D,E,F,G,H),p(I,J,K,L,M,N,O,P)"
	e := load(t, "", "")
	wantAnswers(t, e, sixteen+".", strings.Split("ABCDEFGHIJKLMNOP", ""))
	wantFault(t, e, sixteen+",q(Q).", api.ErrVars, len(sixteen)+3)
	wantFault(t, e, sixteen+",not q(Q).", api.ErrVars, len(sixteen)+7)
	wantFault(t, e, "not q(Q),"+sixteen+".", api.ErrVars, len("not q(Q),"+sixteen)-2)
	var all strings.Builder
	for n := range api.MaxPreds {
		fmt.Fprintf(&all, "p%d.", n)
	}
	full := rested(t, "", all.String())
	wantAnswers(t, full, "p0, p127, not p1.", nil)
	wantAnswers(t, full, "p0, p127.", nil, "")
	wantFault(t, full, "p0, p128.", api.ErrPreds, 4)
	wantFault(t, full, "p0(X), p128.", api.ErrClash, 0)
	wantFault(t, full, "not p128(a).", api.ErrPreds, 4)
	nearly := rested(t, "", strings.TrimPrefix(all.String(), "p0."))
	wantAnswers(t, nearly, "p127, not p0, not p0.", nil, "")
	wantFault(t, nearly, "p127, not p0, not q.", api.ErrPreds, 18)
}

// P15.5: asking changes nothing, and nothing of a query is known later.
func TestCalm(t *testing.T) {
	e, twin := load(t, paths, nodes), load(t, paths, nodes)
	ask := func() {
		for range 2 {
			wantFault(t, e, "path(X).", api.ErrClash, 0)
			wantAnswers(t, e, "zebra(X, 99), node(X).", vars("X"))
			wantAnswers(t, e, "lynx, yak = yak.", nil)
			wantAnswers(t, e, "zebra(X), not lynx(X).", vars("X")) // of zebra's arity nothing is known
		}
	}
	ask()
	wantSame(t, e, twin)
	for steps := uint64(1); steps < 5; steps++ {
		picks := []int{int(steps), -1, 7, 2}
		if got, want := e.Run(picks, steps, 20), twin.Run(picks, steps, 20); got != want {
			t.Errorf("Run = %v, want %v", got, want)
		}
		ask()
		wantSame(t, e, twin)
	}
	e.Reset()
	twin.Reset()
	ask()
	wantSame(t, e, twin)
}

func wantSame(t *testing.T, e, twin *engine.Engine) {
	t.Helper()
	if got, want := seen(e), seen(twin); got != want {
		t.Errorf("an engine that was asked tells\n%s\nwant\n%s", got, want)
	}
}
