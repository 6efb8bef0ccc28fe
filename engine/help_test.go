package engine_test

import (
	"fmt"
	"math"
	"slices"
	"strings"
	"testing"

	"edict/api"
	"edict/engine"
	"edict/print"
	"edict/sym"
)

const most = math.MaxUint64

// paths is the program P of the chapter's examples.
const paths = `edge(a, b). edge(b, c).
path(X, Y) :- edge(X, Y).
path(X, Z) :- path(X, Y), edge(Y, Z).
node(X) :- edge(X, _).
node(Y) :- edge(_, Y).
apart(X, Y) :- node(X), node(Y), not path(X, Y).
`

const pathsModel = `apart(a, a).
apart(b, a).
apart(b, b).
apart(c, a).
apart(c, b).
apart(c, c).
edge(a, b).
edge(b, c).
node(a).
node(b).
node(c).
path(a, b).
path(a, c).
path(b, c).
`

func load(t *testing.T, src string, facts string) *engine.Engine {
	t.Helper()
	e, info, fault := engine.Load(src, facts)
	if e == nil || fault != (api.Fault{}) || info != e.Info() {
		t.Fatalf("Load(%.80q, %.40q) = an engine %v, %v, %v", src, facts, e != nil, info, fault)
	}
	return e
}

func wantFault(t *testing.T, src string, facts string, code api.Errno, text int, off int) {
	t.Helper()
	want := api.Fault{Code: code, Text: text, Off: off}
	if e, info, got := engine.Load(src, facts); e != nil || info != (api.Info{}) || got != want {
		t.Errorf("Load(%.80q, %.40q) = an engine %v, %v, %v, want none, none, %v", src, facts, e != nil, info, got, want)
	}
}

func wantInfo(t *testing.T, src string, facts string, want api.Info) {
	t.Helper()
	if got := load(t, src, facts).Info(); got != want {
		t.Errorf("Info of %.80q, %.40q = %+v, want %+v", src, facts, got, want)
	}
}

func done(steps, fresh, live uint64) api.Outcome {
	return api.Outcome{Stop: api.Done, Steps: steps, Fresh: fresh, Live: live}
}

func stepped(steps, fresh, live uint64) api.Outcome {
	return api.Outcome{Stop: api.StepBudget, Steps: steps, Fresh: fresh, Live: live}
}

func crowded(steps, fresh, live uint64) api.Outcome {
	return api.Outcome{Stop: api.MemBudget, Steps: steps, Fresh: fresh, Live: live}
}

func wantRun(t *testing.T, e *engine.Engine, picks []int, steps, mem uint64, want api.Outcome) {
	t.Helper()
	if got := e.Run(picks, steps, mem); got != want {
		t.Errorf("Run(%v, %d, %d) = %+v, want %+v", picks, steps, mem, got, want)
	}
}

// actText is an act as its rule's number and its constants.
func actText(rule int, subst []api.Const) string {
	text := fmt.Sprint(rule)
	for _, c := range subst {
		text += " " + sym.Text(c)
	}
	return text
}

func actTexts(acts []api.Activation) (all []string) {
	for _, a := range acts {
		all = append(all, actText(a.Rule, a.Subst))
	}
	return all
}

func wantActs(t *testing.T, what string, got []api.Activation, want ...string) {
	t.Helper()
	if texts := actTexts(got); !slices.Equal(texts, want) {
		t.Errorf("%s = %q, want %q", what, texts, want)
	}
}

// logTexts is the steps: the act, its head, and a plus where that was new.
func logTexts(log []api.Firing) (all []string) {
	for _, f := range log {
		text := actText(f.Rule, f.Subst) + ": " + print.Fact(f.Head)
		if f.Fresh {
			text += " +"
		}
		all = append(all, text)
	}
	return all
}

func wantLog(t *testing.T, e *engine.Engine, want ...string) {
	t.Helper()
	if got := logTexts(e.Log()); !slices.Equal(got, want) {
		t.Errorf("Log = %q, want %q", got, want)
	}
}

func wantModel(t *testing.T, e *engine.Engine, want string) {
	t.Helper()
	if got := e.Model(); got != want {
		t.Errorf("Model = %q, want %q", got, want)
	}
}

func factTexts(facts []api.Fact) (all []string) {
	for _, f := range facts {
		all = append(all, print.Fact(f))
	}
	return all
}

// wantFacts holds the memory in order of coming, in names and in ids.
func wantFacts(t *testing.T, e *engine.Engine, want ...string) {
	t.Helper()
	if got := factTexts(e.Facts()); !slices.Equal(got, want) {
		t.Errorf("Facts = %q, want %q", got, want)
	}
	c := e.Core()
	var got []string
	for _, r := range e.Rows() {
		f := api.Fact{Pred: c.Preds[r.Pred].Name}
		for _, id := range r.Args {
			f.Args = append(f.Args, c.Consts[id])
		}
		got = append(got, print.Fact(f))
	}
	if !slices.Equal(got, want) {
		t.Errorf("Rows = %q, want %q", got, want)
	}
}

func name(text string) api.Const { return api.Const{Kind: api.KName, Text: text} }

func number(n int64) api.Const { return api.Const{Kind: api.KInt, Int: n} }

func fact(pred string, args ...api.Const) api.Fact { return api.Fact{Pred: pred, Args: args} }

// seen is all that an engine tells, as text.
func seen(e *engine.Engine) string {
	src, facts := e.Texts()
	return strings.Join([]string{
		fmt.Sprintf("%+v", e.Info()), src, facts, fmt.Sprintf("%+v", e.Core()), fmt.Sprintf("%+v", e.Plan()),
		fmt.Sprint(e.Rows()), fmt.Sprint(e.Facts()), e.Model(),
		fmt.Sprint(e.Conflict()), fmt.Sprint(e.Eligible()), fmt.Sprint(e.Log()),
	}, "\n")
}

// state is what a run can change, as text.
func state(e *engine.Engine) string {
	return strings.Join([]string{fmt.Sprint(e.Facts()), fmt.Sprint(e.Conflict()), fmt.Sprint(e.Eligible()), fmt.Sprint(e.Log())}, "\n")
}

func wantSame(t *testing.T, what string, got, want string) {
	t.Helper()
	if got != want {
		t.Errorf("%s:\n%s\nwant\n%s", what, got, want)
	}
}
