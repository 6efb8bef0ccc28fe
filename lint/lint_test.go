package lint_test

import (
	"fmt"
	"slices"
	"strings"
	"testing"

	"edict/api"
	"edict/lint"
)

// The chapter's examples, its edges, and wrong inputs. (P1 to P8 are the chapter's promises.)

// P1
func TestCovers(t *testing.T) {
	for _, x := range []struct {
		a, b string
		want bool
	}{
		{"p(X) :- q(X, Y).", "p(a) :- r, q(a, b).", true},
		{"p(X) :- q(X, X).", "p(a) :- q(a, b).", false},
		{"p(X) :- q(X, Y), q(Y, X).", "p(Z) :- q(Z, Z).", true},
		{"p(X) :- q(X, _), q(_, X).", "p(Z) :- q(Z, Z).", true},
		{"p(X) :- q(X, Z), r(Z).", "p(X) :- q(X, _), r(_).", false},
		{"p(a).", "p(a) :- q.", true},
		{"p(a) :- q.", "p(a).", false},
		{"p :- not q(X).", "p :- not q(a), r.", true},
		{"p(X) :- q(X), X < 3.", "p(X) :- q(X), X < 2.", false},
		// heads
		{"p.", "p.", true},
		{"p.", "q.", false},
		{"p(X).", "p.", false},
		{"p.", "p(X).", false},
		{"p(X).", "p(X, Y).", false},
		{"p(X, Y).", "p(A, A).", true},
		{"p(X, X).", "p(A, B).", false},
		{"p(X, X).", "p(_, _).", false},
		{"p(_, _).", "p(A, A).", true},
		{"p(_, _).", "p(a, b).", true},
		{"p(X, Y).", "p(_, _).", true},
		{"p(a).", "p(X).", false},
		{"p(X).", "p(\"a\").", true},
		{"p(X).", "p(-7).", true},
		{"p(a).", "p(\"a\").", false},
		{"p(1).", "p(2).", false},
		{"p(1).", "p(\"1\").", false},
		// names that both have
		{"p(X, Y) :- q(Y, X).", "p(Y, X) :- q(X, Y).", true},
		{"p(X, Y) :- q(Y, X).", "p(Y, X) :- q(Y, X).", false},
		{"p(X) :- q(X, Y), q(Y, Z).", "p(Y) :- q(Y, X), q(X, X).", true},
		// kinds, predicates, numbers of terms, ops
		{"p :- q(X).", "p :- not q(a).", false},
		{"p :- not q(X).", "p :- q(a).", false},
		{"p :- q(X).", "p :- r(X).", false},
		{"p :- q(X).", "p :- q(X, X).", false},
		{"p :- q(X, Y).", "p :- q(X).", false},
		{"p :- X < Y.", "p :- 1 < a.", true},
		{"p :- X < Y.", "p :- Y > X.", false},
		{"p :- X < Y.", "p :- X <= Y.", false},
		{"p :- X < 2.", "p :- 2 < X.", false},
		{"p :- X = X.", "p :- X = Y.", false},
		{"p :- X = Y.", "p :- X = X.", true},
		{"p :- _ = _.", "p :- X = X.", true},
		{"p :- X = X.", "p :- _ = _.", false},
		{"p :- q(X), X < 3.", "p :- X < 3, q(Y).", false},
		{"p :- q(X), X < 3.", "p :- X < 3, q(Y), q(X).", true},
		// each _ is another thing, the same as itself only
		{"p :- q(X, X).", "p :- q(_, _).", false},
		{"p :- q(X, Y).", "p :- q(_, _).", true},
		{"p :- q(_, _).", "p :- q(X, Y).", true},
		{"p :- q(X), r(X).", "p :- q(_), r(_).", false},
		{"p :- q(X), q(X).", "p :- q(_).", true},
		{"p :- q(X, Y), q(X, Z).", "p :- q(_, a), q(b, _).", true},
		{"p(X) :- q(X).", "p(_) :- q(_).", false},
		{"p(_) :- q(_).", "p(X) :- q(X).", true},
		{"p(__) :- q(__).", "p(_) :- q(_).", false},
		{"p(_x, _x).", "p(A, B).", false},
		// the terms that were tried are taken back
		{"p(X) :- e(X, Y), e(Y, Z).", "p(a) :- e(b, c), e(a, d), e(a, b).", true},
		{"p :- e(X, Y), e(Y, Z), e(Z, X).", "p :- e(a, b), e(b, a), e(b, c), e(c, d), e(d, b).", true},
		{"p :- e(X, Y), e(Y, Z), e(Z, X).", "p :- e(a, b), e(b, a), e(b, c), e(c, d), e(d, a).", false},
		{"p :- e(X, Y), f(Y, Z), g(Z).", "p :- e(a, b), e(a, c), f(b, d), f(c, d), f(c, e), g(e).", true},
		{"p :- e(X, Y), f(Y, Z), g(X, Z).", "p :- e(a, b), e(a, c), f(b, d), f(c, e), g(c, d), g(a, f).", false},
		{"p :- e(X), f(Y), g(X, Y).", "p :- e(a), e(b), f(c), f(d), g(a, a), g(b, d).", true},
		{"p :- e(X), f(Y), g(X), h(Y).", "p :- e(a), e(b), f(c), f(d), g(b), h(d).", true},
		{"p :- e(X), f(Y), g(X), h(Y).", "p :- e(a), e(b), f(c), f(d), g(b), h(e).", false},
	} {
		wantCovers(t, x.a, x.b, x.want)
	}
}

// P1: six literals of a, any number of b.
func TestCoversLimit(t *testing.T) {
	long := "p :- a, b, c, d, e, f, g, h, i, j, k, l, m, n, o, q."
	wantCovers(t, "p :- q, o, n, m, l, k.", long, true)
	wantCovers(t, "p :- q, o, n, m, l, k, j.", long, false)
	wantCovers(t, "p :- a, a, a, a, a, a.", "p :- a.", true)
	wantCovers(t, "p :- a, a, a, a, a, a, a.", "p :- a.", false)
	wantCovers(t, long, long, false)
	wantCovers(t, "p.", long, true)
}

// many is a clause with so many literals of eight variables each, no two the same.
func many(literals int) string {
	num := 0
	atom := func() string {
		var args []string
		for range api.MaxArity {
			args = append(args, fmt.Sprint("X", num))
			num++
		}
		return "(" + strings.Join(args, ", ") + ")"
	}
	head, body := "p"+atom(), []string(nil)
	for num := range literals {
		body = append(body, fmt.Sprint("q", num, atom()))
	}
	return head + " :- " + strings.Join(body, ", ") + "."
}

// P1: as many variables as there can be, more than a rule may have.
func TestCoversManyVariables(t *testing.T) {
	wantCovers(t, many(6), many(6), true)
	wantCovers(t, many(6), many(16), true)
	wantCovers(t, many(6), strings.ReplaceAll(many(16), "X55", "a"), true)
	wantCovers(t, strings.ReplaceAll(many(6), "X55", "X0"), many(16), false)
	wantCovers(t, strings.ReplaceAll(many(6), "X55", "X54"), many(16), false)
	wantCovers(t, strings.ReplaceAll(many(6), "X55", "X54"), strings.ReplaceAll(many(16), "X55", "X54"), true)
	wantCovers(t, many(16), many(16), false)
}

// P1: what is not well formed covers nothing, and nothing covers it.
func TestCoversWrong(t *testing.T) {
	for num, c := range wrong() {
		all := []api.Clause{c, clause(t, "p."), clause(t, "p(X).")}
		for _, other := range all {
			if lint.Covers(c, other) || lint.Covers(other, c) {
				t.Errorf("wrong clause %d covers %v, or that one it", num, other)
			}
		}
	}
}

// P1, P8: what cannot be is found to be so without going through all.
func TestCoversHard(t *testing.T) {
	star, leaves, loops := "", "", ""
	for num := range 15 {
		star += fmt.Sprintf("e(h, X%d), ", num)
		leaves += fmt.Sprintf("e(X%d, h), ", num)
		loops += fmt.Sprintf("e(X%d, X%d), ", num, num)
	}
	wantCovers(t, "p :- e(X, A), e(X, B), e(X, C), e(X, D), e(X, E), e(E, F).", "p :- "+star+"f.", false)
	wantCovers(t, "p :- e(A, X), e(B, X), e(C, X), e(D, X), e(E, X), e(F, E).", "p :- "+leaves+"f.", false)
	wantCovers(t, "p :- e(_, _), e(_, _), e(_, _), e(_, _), e(A, B), e(B, C).", "p :- "+star+"e(k, h).", true)
	wantCovers(t, "p :- e(_, _), e(_, _), e(_, _), e(_, _), e(A, B), e(B, A).", "p :- "+star+"e(k, h).", false)
	wantCovers(t, "p :- e(A, B), e(B, C), e(C, D), e(D, E), e(E, F), e(F, a).", "p :- "+loops+"e(a, b).", false)
	wantCovers(t, "p :- e(A, B), e(B, C), e(C, D), e(D, E), e(E, F), e(a, F).", "p :- "+loops+"e(a, b).", false)
	wantCovers(t, "p :- e(A, B), e(B, C), e(C, D), e(D, E), e(E, F), e(F, b).", "p :- "+loops+"e(a, b).", false)
	wantCovers(t, "p :- e(A, B), e(B, C), e(C, D), e(D, E), e(E, F), e(F, A).", "p :- "+star+"e(a, b).", false)
}

// P2
func TestLookExample(t *testing.T) {
	want := []api.Finding{
		{Kind: api.FSingle, Other: -1, Off: 13, Name: "Y"},
		{Kind: api.FSingle, Other: -1, Off: 19, Name: "Z"},
		{Kind: api.FUnused, Other: -1, Name: "p"},
		{Kind: api.FTwice, Clause: 1, Off: 23},
		{Kind: api.FSingle, Clause: 1, Other: -1, Off: 36, Name: "B"},
		{Kind: api.FSingle, Clause: 1, Other: -1, Off: 42, Name: "C"},
		{Kind: api.FCovered, Clause: 2, Off: 46},
		{Kind: api.FNever, Clause: 3, Other: -1, Off: 83},
		{Kind: api.FNever, Clause: 4, Other: -1, Off: 115},
		{Kind: api.FIdle, Clause: 4, Other: -1, Off: 107},
	}
	if got := lint.Look(program(t, five)); !slices.Equal(got, want) {
		t.Errorf("Look = %v, want %v", got, want)
	}
	if got := lint.Look(api.Program{}); len(got) > 0 {
		t.Errorf("Look of nothing = %v", got)
	}
}

// P2: all kinds that one clause can have stand in the order of their numbers.
func TestLookOrder(t *testing.T) {
	wantLook(t, "p(X) :- q(X, Y), 1 = 1, X != X, Z <= Z, r(V). p(A) :- q(A, B), 1 = 1, A != A, C <= C, r(D).",
		"1:25: clause 0 never fires", "1:14: variable Y stands once", "1:43: variable V stands once", "1:18: the test always holds", "1:33: the test always holds", "1:1: predicate p is used nowhere",
		"1:47: clause 1 is clause 0 again", "1:71: clause 1 never fires", "1:60: variable B stands once", "1:89: variable D stands once", "1:64: the test always holds", "1:79: the test always holds")
	wantLook(t, "s :- p.\np(a) :- q(b),\n r(c),\n Y < 1,\n 2 < 1,\n not q(b), 1 < 2, not r(c).\np(X) :- q(b), 2 < 1.",
		"1:1: predicate s is used nowhere",
		"2:1: clause 1 is covered by clause 2", "5:2: clause 1 never fires", "4:2: variable Y stands once", "6:12: the test always holds",
		"7:15: clause 2 never fires", "7:3: variable X stands once")
}

// P2: FTwice
func TestTwice(t *testing.T) {
	for _, x := range []struct {
		src  string
		want []string
	}{
		{"p. p. p.", []string{"1:4: clause 1 is clause 0 again", "1:7: clause 2 is clause 0 again"}},
		{"p. q. q. p.", []string{"1:7: clause 2 is clause 1 again", "1:10: clause 3 is clause 0 again"}},
		{"p(X, Y) :- q(X, Y). p(Y, X) :- q(Y, X).", []string{"1:21: clause 1 is clause 0 again"}},
		{"p(X, Y) :- q(X, Y). p(Y, X) :- q(X, Y).", nil},
		{"p(X, Y) :- q(X, Y). p(X, X) :- q(X, X). p(Y, Y) :- q(Y, Y).", []string{"1:41: clause 2 is clause 1 again"}},
		{"p(X, X) :- q(X, X). p(X, Y) :- q(X, Y).", nil},
		{"p(X) :- q(X, _). p(Y) :- q(Y, _).", []string{"1:18: clause 1 is clause 0 again"}},
		{"p(X) :- q(X, _). p(X) :- q(X, Y).", nil},
		{"p(X) :- q(X, Y). p(X) :- q(X, _).", nil},
		{"p(_, X) :- q(X, Y). p(Y, _) :- q(Y, X).", nil},
		{"p(_, _) :- q(_, X). p(_, _) :- q(_, _a).", []string{"1:21: clause 1 is clause 0 again"}},
		{"p(_x). p(__). p(X). p(_).", []string{"1:8: clause 1 is clause 0 again", "1:15: clause 2 is clause 0 again"}},
		{"p(a). p(b). p(\"a\"). p(1). p(X).", nil},
		{"p(1) :- X < 007. p(01) :- Y < 7.", []string{"1:18: clause 1 is clause 0 again"}},
		{"p :- q(X), not r(X), X < Y. p :- q(B), not r(B), B < A.", []string{"1:29: clause 1 is clause 0 again"}},
		{"p :- q(X), not r(X). p :- not r(X), q(X).", nil},
		{"p :- q(X). p :- not q(X).", nil},
		{"p :- X < Y. p :- X <= Y. p :- Y > X.", nil},
		{"p :- q(a). p :- q(a), q(a). p :- q(a), q(a).", []string{"1:29: clause 2 is clause 1 again"}},
		{"p(X). p(X, Y). p. p :- q. p :- q(X).", nil},
		{"p :- a, b, c, d, e, f, g, h. p :- a, b, c, d, e, f, g, h.", []string{"1:30: clause 1 is clause 0 again"}},
		{many(16) + "\n" + strings.ReplaceAll(many(16), "X", "Y"), []string{"2:1: clause 1 is clause 0 again"}},
		{many(16) + "\n" + strings.ReplaceAll(many(16), "X135", "X134"), nil},
	} {
		wantKind(t, api.FTwice, x.src, x.want...)
	}
}

// P2: FCovered
func TestCovered(t *testing.T) {
	for _, x := range []struct {
		src  string
		want []string
	}{
		{"p(X) :- q(X, _). p(X) :- q(X, Y).", []string{"1:18: clause 1 is covered by clause 0"}},
		{"p(X) :- q(X, Y). p(X) :- q(X, _).", []string{"1:18: clause 1 is covered by clause 0"}},
		{"p(a). p(X).", []string{"1:1: clause 0 is covered by clause 1"}},
		{"p(a) :- q. p(b) :- q. p(X) :- q. p(Y).", []string{"1:1: clause 0 is covered by clause 2", "1:12: clause 1 is covered by clause 2", "1:23: clause 2 is covered by clause 3"}},
		{"p(Y). p(a) :- q. p(X) :- q.", []string{"1:7: clause 1 is covered by clause 0", "1:18: clause 2 is covered by clause 0"}},
		// twice comes first, and is told of the later one alone
		{"p(X) :- q. p(Y) :- q.", nil},
		{"p(a) :- q. p(a) :- q. p(X) :- q.", []string{"1:1: clause 0 is covered by clause 2"}},
		{"p(X) :- q. p(X) :- q. p(a) :- q.", []string{"1:23: clause 2 is covered by clause 0"}},
		// of those that cover one another all but the first
		{"p :- q(X), q(Y). p :- q(X). p :- q(_), q(_), q(X).", []string{"1:18: clause 1 is covered by clause 0", "1:29: clause 2 is covered by clause 0"}},
		{"p :- r, q. p :- q, r. p :- q.", []string{"1:1: clause 0 is covered by clause 2", "1:12: clause 1 is covered by clause 0"}},
		// with more than six literals it covers none
		{"p :- a, b, c, d, e, f, g. p :- g, a, b, c, d, e, f.", nil},
		{"p :- a, b, c, d, e, f. p :- g, a, b, c, d, e, f.", []string{"1:24: clause 1 is covered by clause 0"}},
		{"p :- g, a, b, c, d, e, f. p :- a, b, c, d, e, f.", []string{"1:1: clause 0 is covered by clause 1"}},
		// the two go by their looks: tests, what never fires
		{"p(X) :- q(X), X < 3. p(X) :- q(X), X < 2.", nil},
		{"p(X) :- q(X), X != X. p(a) :- q(a), a != a.", []string{"1:23: clause 1 is covered by clause 0"}},
		{"p(X) :- q(X), 1 = 1. p(X) :- q(X).", []string{"1:1: clause 0 is covered by clause 1"}},
	} {
		wantKind(t, api.FCovered, x.src, x.want...)
	}
}

// P2: FNever and FIdle
func TestTests(t *testing.T) {
	const ops = "= != < <= > >="
	for _, x := range []struct {
		left, right string
		holds       string // the ops with which it always holds
		fails       string // and those with which it never does
	}{
		{"X", "X", "= <= >=", "!= < >"},
		{"_x", "_x", "= <= >=", "!= < >"},
		{"__", "__", "= <= >=", "!= < >"},
		{"_", "_", "", ""},
		{"X", "Y", "", ""},
		{"X", "_", "", ""},
		{"X", "1", "", ""},
		{"a", "X", "", ""},
		{"1", "1", "= <= >=", "!= < >"},
		{"a", "a", "= <= >=", "!= < >"},
		{"\"\"", "\"\"", "= <= >=", "!= < >"},
		{"-2", "1", "!= < <=", "= > >="},
		{"10", "9", "!= > >=", "= < <="},
		{"5", "a", "!= < <=", "= > >="},
		{"b", "\"a\"", "!= < <=", "= > >="},
		{"\"1\"", "1", "!= > >=", "= < <="},
		{"ab", "a", "!= > >=", "= < <="},
		{"-9223372036854775808", "9223372036854775807", "!= < <=", "= > >="},
	} {
		for _, op := range strings.Fields(ops) {
			src := "p :- " + x.left + " " + op + " " + x.right + "."
			var idle, never []string
			if slices.Contains(strings.Fields(x.holds), op) {
				idle = []string{"1:6: the test always holds"}
			}
			if slices.Contains(strings.Fields(x.fails), op) {
				never = []string{"1:6: clause 0 never fires"}
			}
			wantKind(t, api.FIdle, src, idle...)
			wantKind(t, api.FNever, src, never...)
		}
	}
	wantKind(t, api.FIdle, "p :- 1 = 1, q, X = X, 1 = 2, a < \"a\".", "1:6: the test always holds", "1:16: the test always holds", "1:30: the test always holds")
	wantKind(t, api.FNever, "p :- 1 = 1, q, X != X, 1 = 2.", "1:16: clause 0 never fires")
}

// P2: FNever of a negated atom beside a positive one
func TestContradictions(t *testing.T) {
	for _, x := range []struct {
		src  string
		want []string
	}{
		{"p :- q, not q.", []string{"1:9: clause 0 never fires"}},
		{"p :- not q, q.", []string{"1:6: clause 0 never fires"}},
		{"p :- q(X, a, 1), not q(X, a, 1).", []string{"1:18: clause 0 never fires"}},
		{"p :- q(X), r(Y), not q(Y), not r(X), not r(Y), not q(X).", []string{"1:38: clause 0 never fires"}},
		{"p :- q(X), not q(X), 1 = 2.", []string{"1:12: clause 0 never fires"}},
		{"p :- 1 = 2, q(X), not q(X).", []string{"1:6: clause 0 never fires"}},
		{"p :- not q(X), X < X, q(X).", []string{"1:6: clause 0 never fires"}},
		{"p :- q(X), not q(Y).", nil},
		{"p :- q(_), not q(_).", nil},
		{"p :- q(_, X), not q(_, X).", nil},
		{"p :- q(\"_\"), not q(\"_\").", []string{"1:14: clause 0 never fires"}},
		{"p :- q(X, _x), not q(X, _x).", []string{"1:16: clause 0 never fires"}},
		{"p :- q(a), not q(\"a\").", nil},
		{"p :- q(1), not q(2).", nil},
		{"p :- q(X), not q(X, X).", nil},
		{"p :- q, not q(X).", nil},
		{"p :- q(X), not r(X).", nil},
		{"p(X) :- r(X), not p(X).", nil},
		{"p :- not q(X), not q(X).", nil},
		{"p :- q(X), q(X).", nil},
		{"p :- q(X). r :- not q(X).", nil},
	} {
		wantKind(t, api.FNever, x.src, x.want...)
	}
}

// P2: FSingle
func TestSingle(t *testing.T) {
	for _, x := range []struct {
		src  string
		want []string
	}{
		{"p(X).", []string{"1:3: variable X stands once"}},
		{"p(X, Y, X).", []string{"1:6: variable Y stands once"}},
		{"p(_, _a, __, _X).", nil},
		{"p(x) :- q(\"X\").", nil},
		{"p(\"X\") :- q(X, \"X\").", []string{"1:13: variable X stands once"}},
		{"p(Z, Y) :- X < W, not q(V, Y), r(U, a), T = 1.", []string{"1:3: variable Z stands once", "1:12: variable X stands once", "1:16: variable W stands once", "1:25: variable V stands once", "1:34: variable U stands once", "1:41: variable T stands once"}},
		{"p(X) :- X = X.", nil},
		{"p :- X < X.", nil},
		{"p :- q(X), not r(X).", nil},
		{"p(X). p(X).", []string{"1:3: variable X stands once", "1:9: variable X stands once"}},
		{"p(X) :- q(x, Xx, X_).", []string{"1:3: variable X stands once", "1:14: variable Xx stands once", "1:18: variable X_ stands once"}},
	} {
		wantKind(t, api.FSingle, x.src, x.want...)
	}
}

// P2: FUnused
func TestUnused(t *testing.T) {
	for _, x := range []struct {
		src  string
		want []string
	}{
		{"p :- q.", []string{"1:1: predicate p is used nowhere"}},
		{"p. q(X).", nil},
		{"p :- p.", nil},
		{"p :- q. q :- r.", []string{"1:1: predicate p is used nowhere"}},
		{"p :- q. r :- not p.", []string{"1:9: predicate r is used nowhere"}},
		{"p. p :- q. p :- r. s :- q. p :- s.", []string{"1:4: predicate p is used nowhere"}},
		{"r :- q. p :- q.", []string{"1:1: predicate r is used nowhere", "1:9: predicate p is used nowhere"}},
		{"p :- q. r :- p(X).", []string{"1:9: predicate r is used nowhere"}}, // a predicate is its name
		{"p :- q. r(p) :- q(p), p = p.", []string{"1:1: predicate p is used nowhere", "1:9: predicate r is used nowhere"}},
		{"p :- q, 1 = 2, not p.", nil},
	} {
		wantKind(t, api.FUnused, x.src, x.want...)
	}
}

// P2: a program that is not well formed has no findings.
func TestLookWrong(t *testing.T) {
	good := program(t, five).Clauses
	for num, c := range wrong() {
		for at := range len(good) + 1 {
			if got := lint.Look(api.Program{Clauses: slices.Insert(slices.Clone(good), at, c)}); len(got) > 0 {
				t.Errorf("Look with wrong clause %d at %d = %v", num, at, got)
			}
		}
	}
	most := api.Program{Clauses: slices.Repeat(good[:1], api.MaxClauses)}
	if got := lint.Look(most); len(got) != 3*api.MaxClauses {
		t.Errorf("Look of MaxClauses clauses: %d findings", len(got))
	}
	most.Clauses = append(most.Clauses, good[0])
	if got := lint.Look(most); len(got) > 0 {
		t.Errorf("Look of one clause more: %d findings", len(got))
	}
}

// P2, P8: a program as great as may be, each clause near to each other one.
func TestLookGreat(t *testing.T) {
	var p api.Program
	for num := range api.MaxClauses {
		src := "p(X0) :- "
		for at := range 6 {
			src += fmt.Sprintf("e(X%d, X%d), ", (num>>at)%3, (num/(at+1)+at)%4+1)
		}
		p.Clauses = append(p.Clauses, clause(t, src+fmt.Sprint("n(", num, ")."))) // a seventh literal
		if num%2 == 0 {
			p.Clauses[num].Body = p.Clauses[num].Body[:6]
		}
	}
	counts := map[int]int{}
	for _, f := range lint.Look(p) {
		counts[f.Kind]++
	}
	if counts[api.FTwice] == 0 || counts[api.FCovered] < 100 || counts[api.FUnused] != 1 {
		t.Errorf("findings by kinds: %v", counts)
	}
	if trimmed := lint.Trim(p); len(trimmed.Clauses)+counts[api.FTwice]+counts[api.FCovered] != len(p.Clauses) {
		t.Errorf("Trim leaves %d clauses of %d, with %v", len(trimmed.Clauses), len(p.Clauses), counts)
	}
}

// P3
func TestTrim(t *testing.T) {
	for _, x := range []struct{ src, want string }{
		{"", ""},
		{five, "p(X) :- q(X, Y), r(Z)."},
		{"p(a) :- 1 < 2. p(b) :- p(a). p(b) :- p(a), p(b).", "p(a). p(b) :- p(a)."},
		{"p(X) :- q(X), X = X. p(Y) :- q(Y).", "p(X) :- q(X)."},
		{"p(X) :- q(X), r. p(Z) :- q(Z).", "p(Z) :- q(Z)."},
		{"p :- q(_), X != X.", ""},
		{"p(X) :- X = X, 1 < 2, a >= a.", "p(X)."},
		{"p :- 1 = 1, q, 1 < 2, r, X = X.", "p :- q, r."},
		{"p :- _ = _, q.", "p :- _ = _, q."},
		{"p :- X < Y, 1 < X.", "p :- X < Y, 1 < X."},
		// what is idle goes ahead of what never fires, and both ahead of what is covered
		{"p :- 1 = 1, 2 = 1.", ""},
		{"p(a) :- q(a), 1 = 1. p(a) :- q(a), 2 = 2.", "p(a) :- q(a)."},
		{"p(a) :- q(a), r, 1 = 1. p(X) :- q(X), 1 = 1, X = X.", "p(X) :- q(X)."},
		{"p(X) :- q(X), 1 = 1. p(a) :- q(a).", "p(X) :- q(X)."},
		{"p :- a, b, c, d, e, f, 1 = 1. p :- a, b, c, d, e, f, g.", "p :- a, b, c, d, e, f."},
		{"p :- a, b, c, d, e, f, 1 = 1. p :- 2 = 2, f, e, d, c, b, a.", "p :- a, b, c, d, e, f."},
		{"p :- a, b, c, d, e, f, g. p :- g, a, b, c, d, e, f.", "p :- a, b, c, d, e, f, g. p :- g, a, b, c, d, e, f."},
		{"p :- a, b, c, d, e, f, g. p :- a, b, c, d, e, f, g.", "p :- a, b, c, d, e, f, g."},
		{"p :- q, not q. p :- q, r, not q. p :- q, r.", "p :- q, r."},
		// all are seen side by side, ahead of any that is left out
		{"p(a, b). p(X, b). p(X, Y). p(a, Y).", "p(X, Y)."},
		{"p :- q(X), q(Y). p :- q(X). p :- q(_), q(_).", "p :- q(X), q(Y)."},
		{"p(a). p(a). q :- p(X). q :- p(X). q :- p(X), p(Y).", "p(a). q :- p(X)."},
		// what is a variable alone, or used nowhere, stays
		{"p(X) :- q(X, Y). u :- p(X).", "p(X) :- q(X, Y). u :- p(X)."},
	} {
		wantTrim(t, x.src, x.want)
	}
}

// P3: what is left keeps its offsets.
func TestTrimOffsets(t *testing.T) {
	const src = "p(a). p(a). q(X) :- 1 = 1, r(X), X = X, not s(X), X != 2."
	p := program(t, src)
	want := api.Program{Clauses: []api.Clause{p.Clauses[0], p.Clauses[2]}}
	body := p.Clauses[2].Body
	want.Clauses[1].Body = []api.Literal{body[1], body[3], body[4]}
	if got := lint.Trim(p); !sameProgram(got, want) {
		t.Errorf("Trim = %v, want %v", got, want)
	}
	if body[1].Off != 27 || body[3].Atom.Args[0].Off != 46 {
		t.Errorf("offsets in %v", body)
	}
}

// P3: a program that is not well formed stays as it is.
func TestTrimWrong(t *testing.T) {
	good := program(t, five+"p :- 1 = 1.").Clauses
	for num, c := range wrong() {
		for at := range len(good) + 1 {
			p := api.Program{Clauses: slices.Insert(slices.Clone(good), at, c)}
			if got := lint.Trim(p); !sameProgram(got, p) {
				t.Errorf("Trim with wrong clause %d at %d = %v", num, at, got)
			}
		}
	}
	most := api.Program{Clauses: slices.Repeat(good[:1], api.MaxClauses+1)}
	if got := lint.Trim(most); !sameProgram(got, most) {
		t.Errorf("Trim of a clause too many has %d", len(got.Clauses))
	}
	most.Clauses = most.Clauses[1:]
	if got := lint.Trim(most); len(got.Clauses) != 1 {
		t.Errorf("Trim of MaxClauses the same has %d", len(got.Clauses))
	}
}

// P5
func TestSlice(t *testing.T) {
	const src = "t(X) :- e(X), not u(X). u(X) :- f(X). f(a). w :- t(a)."
	const three = "t(X) :- e(X), not u(X). u(X) :- f(X). f(a)."
	wantSlice(t, src, three, "t")
	wantSlice(t, src, src, "w")
	wantSlice(t, src, "f(a).", "f", "f")
	wantSlice(t, src, "")
	wantSlice(t, src, "", "x")
	wantSlice(t, src, "", "", "T", "not", "t(X)", " t", "e")
	wantSlice(t, src, "u(X) :- f(X). f(a).", "u")
	wantSlice(t, src, "u(X) :- f(X). f(a).", "f", "x", "u", "e")
	wantSlice(t, src, src, "f", "w")
	wantSlice(t, "p :- q. q :- p. r :- q. q :- s, X = s.", "p :- q. q :- p. q :- s, X = s.", "q")
	wantSlice(t, "p. p(X) :- q. q(X, Y). p.", "p. p(X) :- q. q(X, Y). p.", "p") // a predicate is its name
	wantSlice(t, "p(q) :- r(q), q = q. q.", "p(q) :- r(q), q = q.", "p")
	wantSlice(t, "p(X). p(X). q :- 1 = 2, p(a).", "p(X). p(X). q :- 1 = 2, p(a).", "q")
	wantSlice(t, "", "", "p")
}

// P5: a program that is not well formed has its parts too.
func TestSliceWrong(t *testing.T) {
	name := func(pred string) api.Atom { return api.Atom{Pred: pred, Off: -3} }
	p := api.Program{Clauses: []api.Clause{
		{Head: name("P"), Body: []api.Literal{{Kind: api.LPos, Atom: name("")}, {Kind: api.LNeg, Atom: name("n"), Op: 9}}},
		{Head: name(""), Body: []api.Literal{{Kind: api.LTest, Atom: name("test")}, {Atom: name("none")}, {Kind: 4, Atom: name("four")}, {Kind: -1, Atom: name("P")}}},
		{Head: name("n"), Body: slices.Repeat([]api.Literal{{Kind: api.LNeg, Atom: name("far")}}, 40)},
		{Head: name("test")},
		{Head: name("none")},
		{Head: name("four")},
		{Head: api.Atom{Pred: "far", Args: make([]api.Term, 20)}},
	}}
	for _, x := range []struct {
		goal string
		want []int
	}{{"P", []int{0, 1, 2, 6}}, {"", []int{1}}, {"n", []int{2, 6}}, {"test", []int{3}}, {"far", []int{6}}, {"x", nil}} {
		var want api.Program
		for _, num := range x.want {
			want.Clauses = append(want.Clauses, p.Clauses[num])
		}
		if got := lint.Slice(p, x.goal); !sameProgram(got, want) {
			t.Errorf("Slice(%q) = %v, want %v", x.goal, got, want)
		}
	}
}

// P5, P8: far more clauses than a text may have, each hanging on the next, and goals without number.
func TestSliceFar(t *testing.T) {
	const count = 100000
	p := api.Program{Clauses: make([]api.Clause, count)}
	goals := make([]string, count)
	for num := range count {
		to := api.Literal{Kind: api.LPos + num%2, Atom: api.Atom{Pred: fmt.Sprint("p", num+1)}}
		p.Clauses[num] = api.Clause{Head: api.Atom{Pred: fmt.Sprint("p", num)}, Body: []api.Literal{to, to, to}}
		goals[num] = fmt.Sprint("p", num)
	}
	if got := lint.Slice(p, "p10"); !sameProgram(got, api.Program{Clauses: p.Clauses[10:]}) {
		t.Errorf("Slice of a chain has %d clauses", len(got.Clauses))
	}
	if got := lint.Slice(p, goals...); !sameProgram(got, p) {
		t.Errorf("Slice for all goals has %d clauses", len(got.Clauses))
	}
}

// P7
func TestText(t *testing.T) {
	const src = "p(X) :- q."
	if got, want := lint.Text(src, lint.Look(program(t, src))), "1:3: variable X stands once\n1:1: predicate p is used nowhere\n"; got != want {
		t.Errorf("Text = %q, want %q", got, want)
	}
	all := []api.Finding{
		{Kind: api.FTwice, Clause: 3, Other: 1, Off: 0},
		{Kind: api.FCovered, Clause: 12, Other: 40, Off: 3},
		{Kind: api.FNever, Clause: 0, Other: 7, Off: 4},
		{Kind: api.FSingle, Clause: 5, Name: "X", Off: 5},
		{Kind: api.FIdle, Clause: 5, Name: "X", Off: 2},
		{Kind: api.FUnused, Clause: 5, Name: "p", Off: 6},
	}
	want := "1:1: clause 3 is clause 1 again\n2:1: clause 12 is covered by clause 40\n2:2: clause 0 never fires\n3:1: variable X stands once\n1:3: the test always holds\n3:2: predicate p is used nowhere\n"
	if got := lint.Text("ab\nc\nd", all); got != want {
		t.Errorf("Text = %q, want %q", got, want)
	}
	if got := lint.Text("", nil); got != "" {
		t.Errorf("Text of nothing = %q", got)
	}
}

// P7: findings that nobody found.
func TestTextWrong(t *testing.T) {
	for _, kind := range []int{0, -1, 7, 8, 1 << 40} {
		if got := lint.Text("abc", []api.Finding{{Kind: kind, Name: "X"}, {Kind: api.FIdle}, {Kind: kind}}); got != "1:1: the test always holds\n" {
			t.Errorf("Text with kind %d = %q", kind, got)
		}
	}
	fs := []api.Finding{
		{Kind: api.FTwice, Clause: -2, Other: -1, Off: -1},
		{Kind: api.FCovered, Clause: -9223372036854775808, Other: 9223372036854775807, Off: 4},
		{Kind: api.FSingle, Name: "", Off: 3},
		{Kind: api.FUnused, Name: "a\nb: \xff", Off: 1 << 62},
	}
	want := "0:0: clause -2 is clause -1 again\n0:0: clause -9223372036854775808 is covered by clause 9223372036854775807\n1:4: variable  stands once\n0:0: predicate a\nb: \xff is used nowhere\n"
	if got := lint.Text("abc", fs); got != want {
		t.Errorf("Text = %q, want %q", got, want)
	}
	if got := lint.Text(strings.Repeat("\n", api.MaxSource), []api.Finding{{Kind: api.FIdle, Off: api.MaxSource}}); got != "65537:1: the test always holds\n" {
		t.Errorf("Text at the end of MaxSource bytes = %q", got)
	}
	if got := lint.Text(strings.Repeat("\n", api.MaxSource+1), []api.Finding{{Kind: api.FIdle, Off: 5}}); got != "0:0: the test always holds\n" {
		t.Errorf("Text in too long a source = %q", got)
	}
}
