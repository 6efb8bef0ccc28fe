package why_test

import (
	"fmt"
	"math"
	"slices"
	"strings"
	"testing"

	"edict/api"
	"edict/engine"
	"edict/parse"
	"edict/print"
	"edict/sym"
	"edict/why"
)

const most = math.MaxUint64

// ways is the program of the chapter's examples: rules 0, 1, 2.
const ways = `e(a, b). e(b, c). n(a). n(b). n(c).
t(X, Y) :- e(X, Y).
t(X, Z) :- e(X, Y), t(Y, Z).
s(X) :- n(X), not t(X, c), X != b.
`

func load(t *testing.T, src string, facts string) *engine.Engine {
	t.Helper()
	e, _, fault := engine.Load(src, facts)
	if e == nil {
		t.Fatalf("Load(%.200q, %.200q) = %v", src, facts, fault)
	}
	return e
}

// rested is an engine that has run to the end.
func rested(t *testing.T, src string, facts string) *engine.Engine {
	t.Helper()
	e := load(t, src, facts)
	if out := e.Run(nil, most, most); out.Stop != api.Done {
		t.Fatalf("Run = %v", out)
	}
	return e
}

func name(text string) api.Const { return api.Const{Kind: api.KName, Text: text} }

func number(n int64) api.Const { return api.Const{Kind: api.KInt, Int: n} }

func names(texts ...string) (all []api.Const) {
	for _, text := range texts {
		all = append(all, name(text))
	}
	return all
}

// fact is the fact of a text.
func fact(text string) api.Fact {
	a, fault := parse.Fact(text)
	if fault.Code != api.OK {
		panic(text)
	}
	return a
}

func facts(texts ...string) (all []api.Fact) {
	for _, text := range texts {
		all = append(all, fact(text))
	}
	return all
}

// given is the line of an initial fact.
func given(text string) api.Line { return api.Line{Fact: fact(text), Rule: -1} }

// by is a line that was derived.
func by(text string, rule int, subst []api.Const, from ...int) api.Line {
	return api.Line{Fact: fact(text), Rule: rule, Subst: subst, From: from}
}

func wantLines(t *testing.T, what string, got []api.Line, want ...api.Line) {
	t.Helper()
	same := func(a, b api.Line) bool {
		return a.Rule == b.Rule && a.Fact.Pred == b.Fact.Pred && slices.Equal(a.Fact.Args, b.Fact.Args) && slices.Equal(a.Subst, b.Subst) && slices.Equal(a.From, b.From)
	}
	if !slices.EqualFunc(got, want, same) {
		t.Errorf("%s = %v, want %v", what, got, want)
	}
}

func prove(t *testing.T, e *engine.Engine, f api.Fact) []api.Line {
	t.Helper()
	lines, errno := why.Prove(e, f)
	if errno != api.OK || len(lines) == 0 {
		t.Fatalf("Prove(%v) = %v, %v", f, lines, errno)
	}
	return lines
}

func wantProof(t *testing.T, e *engine.Engine, text string, want ...api.Line) {
	t.Helper()
	wantLines(t, "Prove("+text+")", prove(t, e, fact(text)), want...)
	wantCheck(t, e.Core(), e.Facts(), want, -1)
}

func wantNoProof(t *testing.T, e *engine.Engine, f api.Fact, want api.Errno) {
	t.Helper()
	if lines, errno := why.Prove(e, f); len(lines) > 0 || errno != want {
		t.Errorf("Prove(%v) = %v, %v, want %v", f, lines, errno, want)
	}
}

func wantCheck(t *testing.T, c api.Core, memory []api.Fact, lines []api.Line, want int) {
	t.Helper()
	if got := why.Check(c, memory, lines); got != want {
		t.Errorf("Check(%v) = %d, want %d", lines, got, want)
	}
}

func wantDepth(t *testing.T, lines []api.Line, want ...int) {
	t.Helper()
	if got, errno := why.Depth(lines); errno != api.OK || !slices.Equal(got, want) {
		t.Errorf("Depth(%v) = %v, %v, want %v", lines, got, errno, want)
	}
}

func wantText(t *testing.T, lines []api.Line, want string) {
	t.Helper()
	if got := why.Text(lines); got != want {
		t.Errorf("Text(%v) = %q, want %q", lines, got, want)
	}
}

// obstacleText is an obstacle as text; what it has not is told by "-".
func obstacleText(o api.Obstacle) string {
	f := print.Fact(o.Fact)
	if o.Fact.Pred == "" && len(o.Fact.Args) == 0 {
		f = "-"
	}
	return fmt.Sprint(o.Kind, " ", o.Num, " ", f)
}

func against(e *engine.Engine, rule int, subst []api.Const) (all []string, errno api.Errno) {
	obstacles, errno := why.Against(e, rule, subst)
	for _, o := range obstacles {
		all = append(all, obstacleText(o))
	}
	return all, errno
}

func wantAgainst(t *testing.T, e *engine.Engine, rule int, subst []api.Const, want ...string) {
	t.Helper()
	if got, errno := against(e, rule, subst); errno != api.OK || !slices.Equal(got, want) {
		t.Errorf("Against(%d, %v) = %q, %v, want %q", rule, subst, got, errno, want)
	}
}

func wantNotAgainst(t *testing.T, e *engine.Engine, rule int, subst []api.Const, want api.Errno) {
	t.Helper()
	if got, errno := why.Against(e, rule, subst); len(got) > 0 || errno != want {
		t.Errorf("Against(%d, %v) = %v, %v, want %v", rule, subst, got, errno, want)
	}
}

func wantReach(t *testing.T, e *engine.Engine, rule int, goal api.Fact, want int) {
	t.Helper()
	if got, errno := why.Reach(e, rule, goal); got != want || errno != api.OK {
		t.Errorf("Reach(%d, %v) = %d, %v, want %d", rule, goal, got, errno, want)
	}
}

// seen is all that an engine tells, as text.
func seen(e *engine.Engine) string {
	src, facts := e.Texts()
	return strings.Join([]string{
		fmt.Sprintf("%+v", e.Info()), src, facts, fmt.Sprintf("%+v", e.Core()), fmt.Sprintf("%+v", e.Plan()),
		fmt.Sprint(e.Rows()), fmt.Sprint(e.Facts()), e.Model(),
		fmt.Sprint(e.Conflict()), fmt.Sprint(e.Eligible()), fmt.Sprint(e.Log()),
	}, "\n")
}

func actText(rule int, subst []api.Const) string {
	text := fmt.Sprint(rule)
	for _, c := range subst {
		text += " " + sym.Text(c)
	}
	return text
}
