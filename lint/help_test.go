package lint_test

import (
	"slices"
	"strings"
	"testing"

	"edict/api"
	"edict/lint"
	"edict/parse"
	"edict/print"
)

// five is the program of the chapter's second example.
const five = `p(X) :- q(X, Y), r(Z).
p(A) :- q(A, B), r(C).
p(a) :- r(b), q(a, c), s.
s :- r(X), not r(X).
s :- q(X, X), X <= X, 2 < 1.
`

func program(t *testing.T, src string) api.Program {
	t.Helper()
	p, fault := parse.Program(src)
	if fault.Code != api.OK {
		t.Fatalf("Program(%.200q) = %v", src, fault)
	}
	return p
}

func clause(t *testing.T, src string) api.Clause {
	t.Helper()
	cs := program(t, src).Clauses
	if len(cs) != 1 {
		t.Fatalf("%q is %d clauses", src, len(cs))
	}
	return cs[0]
}

func wantCovers(t *testing.T, a string, b string, want bool) {
	t.Helper()
	if got := lint.Covers(clause(t, a), clause(t, b)); got != want {
		t.Errorf("Covers(%.300s ; %.300s) = %v", a, b, got)
	}
}

// wantLook wants findings as lines of Text.
func wantLook(t *testing.T, src string, want ...string) {
	t.Helper()
	text := lint.Text(src, lint.Look(program(t, src)))
	if got := strings.Split(strings.TrimSuffix(text, "\n"), "\n"); text != "" && !slices.Equal(got, want) || text == "" && len(want) > 0 {
		t.Errorf("Look(%.300s):\n%s\nwant\n%s", src, text, strings.Join(want, "\n"))
	}
}

// wantKind wants all findings of one kind in a text, as lines of Text.
func wantKind(t *testing.T, kind int, src string, want ...string) {
	t.Helper()
	fs := slices.DeleteFunc(lint.Look(program(t, src)), func(f api.Finding) bool { return f.Kind != kind })
	text := lint.Text(src, fs)
	if got := strings.Fields(strings.ReplaceAll(strings.ReplaceAll(text, " ", "."), "\n", " ")); !slices.Equal(got, spaceless(want)) {
		t.Errorf("kind %d of Look(%.300s):\n%swant\n%s", kind, src, text, strings.Join(want, "\n"))
	}
}

func spaceless(lines []string) (all []string) {
	for _, line := range lines {
		all = append(all, strings.ReplaceAll(line, " ", "."))
	}
	return all
}

func wantTrim(t *testing.T, src string, want string) {
	t.Helper()
	p := lint.Trim(program(t, src))
	if got := oneLine(p); got != want {
		t.Errorf("Trim(%.300s) = %s, want %s", src, got, want)
	}
	if again := lint.Trim(p); !sameProgram(again, p) {
		t.Errorf("Trim(Trim(%.300s)) = %s", src, oneLine(again))
	}
}

func wantSlice(t *testing.T, src string, want string, goals ...string) {
	t.Helper()
	if got := oneLine(lint.Slice(program(t, src), goals...)); got != want {
		t.Errorf("Slice(%.300s, %q) = %s, want %s", src, goals, got, want)
	}
}

// oneLine is a program's clauses with blanks between.
func oneLine(p api.Program) string {
	return strings.TrimSpace(strings.ReplaceAll(print.Program(p), "\n", " "))
}

// sameProgram tells whether two programs are the same, offsets too.
func sameProgram(a api.Program, b api.Program) bool {
	return slices.EqualFunc(a.Clauses, b.Clauses, func(a, b api.Clause) bool {
		return sameAtom(a.Head, b.Head) && slices.EqualFunc(a.Body, b.Body, func(a, b api.Literal) bool {
			return a.Kind == b.Kind && sameAtom(a.Atom, b.Atom) && a.Op == b.Op && a.Left == b.Left && a.Right == b.Right && a.Off == b.Off
		})
	})
}

func sameAtom(a api.Atom, b api.Atom) bool {
	return a.Pred == b.Pred && slices.Equal(a.Args, b.Args) && a.Off == b.Off
}

// wrong is clauses that are not well formed, each for one reason.
func wrong() []api.Clause {
	p := api.Atom{Pred: "p"}
	pos := api.Literal{Kind: api.LPos, Atom: p}
	x := api.Term{Kind: api.KVar, Text: "X"}
	return []api.Clause{
		{},
		{Head: api.Atom{Pred: "P"}},
		{Head: api.Atom{Pred: "p", Args: slices.Repeat([]api.Term{x}, api.MaxArity+1)}},
		{Head: api.Atom{Pred: "p", Args: []api.Term{{Kind: api.KVar, Text: "x"}}}},
		{Head: api.Atom{Pred: "p", Args: []api.Term{{}}}},
		{Head: p, Body: slices.Repeat([]api.Literal{pos}, api.MaxBody+1)},
		{Head: p, Body: []api.Literal{{}}},
		{Head: p, Body: []api.Literal{{Kind: 4, Atom: p}}},
		{Head: p, Body: []api.Literal{{Kind: api.LPos, Atom: p, Op: 1}}},
		{Head: p, Body: []api.Literal{{Kind: api.LTest, Op: 7, Left: x, Right: x}}},
		{Head: p, Body: []api.Literal{{Kind: api.LTest, Op: api.OpEq, Left: x}}},
		{Head: p, Body: []api.Literal{{Kind: api.LTest, Op: api.OpEq, Left: x, Right: x, Atom: p}}},
	}
}
