package query_test

import (
	"fmt"
	"math"
	"runtime"
	"slices"
	"strings"
	"testing"
	"time"

	"edict/api"
	"edict/engine"
	"edict/query"
	"edict/sym"
)

const most = math.MaxUint64

// The program and the facts of the chapter's examples.
const (
	paths = "path(X, Y) :- edge(X, Y). path(X, Z) :- path(X, Y), edge(Y, Z). lone(X) :- node(X), not touched(X). touched(X) :- edge(X, _). touched(X) :- edge(_, X)."
	nodes = "edge(a, b). edge(b, c). node(a). node(b). node(c). node(d)."
)

func load(t *testing.T, src string, facts string) *engine.Engine {
	t.Helper()
	e, _, fault := engine.Load(src, facts)
	if e == nil {
		t.Fatalf("Load(%.80q, %.80q) = %v", src, facts, fault)
	}
	return e
}

// rested is an engine that has run to the end.
func rested(t *testing.T, src string, facts string) *engine.Engine {
	t.Helper()
	e := load(t, src, facts)
	if out := e.Run(nil, most, most); out.Stop != api.Done {
		t.Fatalf("Run = %v", out)
	}
	return e
}

// numbers is the facts pred(0), pred(1), and so on.
func numbers(pred string, count int) string {
	var text strings.Builder
	for n := range count {
		fmt.Fprintf(&text, "%s(%d).", pred, n)
	}
	return text.String()
}

// rowText is an answer's constants as text.
func rowText(a api.Answer) string {
	var parts []string
	for _, c := range a.Row {
		parts = append(parts, sym.Text(c))
	}
	return strings.Join(parts, " ")
}

func rowTexts(answers []api.Answer) (all []string) {
	for _, a := range answers {
		all = append(all, rowText(a))
	}
	return all
}

// each is all that Each hands out of a query without a fault.
func each(t *testing.T, e *engine.Engine, text string) (all []string) {
	t.Helper()
	if fault := query.Each(e, text, func(a api.Answer) bool { all = append(all, rowText(a)); return true }); fault != (api.Fault{}) {
		t.Errorf("Each(%q) = %v", text, fault)
	}
	return all
}

// wantAnswers holds every call against all answers of a query without a fault.
func wantAnswers(t *testing.T, e *engine.Engine, text string, names []string, want ...string) {
	t.Helper()
	for _, limit := range []int{0, 1, 2, len(want) - 1, len(want), len(want) + 1, api.MaxAnswers} {
		if limit < 0 || limit > api.MaxAnswers {
			continue
		}
		told, more := want[:min(limit, len(want))], limit < len(want)
		wantAsk(t, e, text, limit, names, told, more)
	}
	if got := each(t, e, text); !slices.Equal(got, want) {
		t.Errorf("Each(%q) gives %q, want %q", text, got, want)
	}
	if count, fault := query.Count(e, text); count != len(want) || fault != (api.Fault{}) {
		t.Errorf("Count(%q) = %d, %v, want %d", text, count, fault, len(want))
	}
	num := -1
	if len(want) > 0 {
		num = 0
	}
	wantAny(t, e, []string{text}, num, api.Fault{})
}

func wantAsk(t *testing.T, e *engine.Engine, text string, limit int, names []string, want []string, wantMore bool) {
	t.Helper()
	got, answers, more, fault := query.Ask(e, text, limit)
	if fault != (api.Fault{}) || more != wantMore || !slices.Equal(got, names) || !slices.Equal(rowTexts(answers), want) {
		t.Errorf("Ask(%q, %d) = %q, %q, %v, %v, want %q, %q, %v", text, limit, got, rowTexts(answers), more, fault, names, want, wantMore)
	}
	for _, a := range answers {
		if len(a.Row) != len(names) {
			t.Errorf("Ask(%q, %d): %v has not as many constants as there are variables", text, limit, a)
		}
	}
}

// wantFault holds every call against a query's fault.
func wantFault(t *testing.T, e *engine.Engine, text string, code api.Errno, off int) {
	t.Helper()
	want := api.Fault{Code: code, Off: off}
	for _, limit := range []int{0, 9, api.MaxAnswers} {
		wantRefused(t, e, text, limit, want)
	}
	handed := 0
	if fault := query.Each(e, text, func(api.Answer) bool { handed++; return true }); fault != want || handed != 0 {
		t.Errorf("Each(%.80q) = %v and hands out %d, want %v", text, fault, handed, want)
	}
	if fault := query.Each(e, text, nil); fault != want {
		t.Errorf("Each(%.80q, nil) = %v, want %v", text, fault, want)
	}
	if count, fault := query.Count(e, text); count != 0 || fault != want {
		t.Errorf("Count(%.80q) = %d, %v, want %v", text, count, fault, want)
	}
	wantAny(t, e, []string{text, text}, -1, want, want)
}

func wantRefused(t *testing.T, e *engine.Engine, text string, limit int, want api.Fault) {
	t.Helper()
	names, answers, more, fault := query.Ask(e, text, limit)
	if fault != want || len(names) > 0 || len(answers) > 0 || more {
		t.Errorf("Ask(%.80q, %d) = %q, %v, %v, %v, want %v", text, limit, names, answers, more, fault, want)
	}
}

func wantAny(t *testing.T, e *engine.Engine, texts []string, want int, faults ...api.Fault) {
	t.Helper()
	if got, told := query.Any(e, texts...); got != want || !slices.Equal(told, faults) {
		t.Errorf("Any(%.200q) = %d, %v, want %d, %v", texts, got, told, want, faults)
	}
}

// seen is all that an engine tells, as text.
func seen(e *engine.Engine) string {
	src, facts := e.Texts()
	return strings.Join([]string{
		fmt.Sprintf("%+v", e.Info()), src, facts, fmt.Sprintf("%+v", e.Core()), fmt.Sprintf("%+v", e.Plan()),
		fmt.Sprint(e.Rows()), fmt.Sprint(e.Facts()), e.Model(),
		fmt.Sprint(e.Conflict()), fmt.Sprint(e.Eligible()), fmt.Sprint(e.Log()),
	}, "\n")
}

// looking tells whether some goroutine looks for answers.
func looking() bool {
	stacks := make([]byte, 1<<20)
	return strings.Contains(string(stacks[:runtime.Stack(stacks, true)]), "edict/query.(*search).down(")
}

// wantEnded holds that nobody looks for answers any more, and that no more goroutines run than ahead of a call. One that has told its end may still be on its way out: so that is asked for a while.
func wantEnded(t *testing.T, ahead int) {
	t.Helper()
	if looking() {
		t.Error("a goroutine looks on behind the call")
	}
	for range 2000 {
		if runtime.NumGoroutine() <= ahead {
			return
		}
		time.Sleep(time.Millisecond)
	}
	t.Errorf("%d goroutines run, %d did ahead of the call", runtime.NumGoroutine(), ahead)
}
