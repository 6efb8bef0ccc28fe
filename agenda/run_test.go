package agenda_test

import (
	"fmt"
	"math"
	"slices"
	"strings"
	"testing"

	"edict/agenda"
	"edict/api"
	"edict/core"
	"edict/match"
	"edict/parse"
	"edict/plan"
	"edict/print"
	"edict/rete"
	"edict/strata"
)

// An agenda beside a net: it is told what the net tells, and what it picks fires.

const paths = `edge(a, b). edge(b, c).
path(X, Y) :- edge(X, Y).
path(X, Z) :- path(X, Y), edge(Y, Z).
node(X) :- edge(X, _).
node(Y) :- edge(_, Y).
apart(X, Y) :- node(X), node(Y), not path(X, Y).`

type runner struct {
	core api.Core
	net  *rete.Net
	a    *agenda.Agenda
}

func newRunner(t *testing.T, src string) runner {
	t.Helper()
	p, fault := parse.Program(src)
	k, other := core.Build(p, nil)
	if fault.Code != api.OK || other.Code != api.OK {
		t.Fatal(fault, other)
	}
	form, e := plan.Compile(k.Rules)
	net, code := rete.New(k.Consts, form)
	byPred, levelled := strata.Levels(len(k.Preds), strata.Edges(k.Rules))
	if e != api.OK || code != api.OK || levelled != api.OK {
		t.Fatal(e, code, levelled)
	}
	var levels []int
	for _, r := range k.Rules {
		levels = append(levels, byPred[r.Head.Pred])
	}
	return runner{core: k, net: net, a: agenda.New(levels, k.Consts)}
}

// bring brings rows into the net, and what comes of them into the agenda; how many rows were new.
func (r runner) bring(t *testing.T, rows ...api.Row) int {
	t.Helper()
	count, e := r.net.Assert(math.MaxUint64, rows...)
	changes := r.net.Changes()
	told, code := r.a.Apply(changes...)
	if e != api.OK || code != api.OK || told != len(changes) {
		t.Fatalf("Assert %d, Apply(%v) = %d, %d", e, changes, told, code)
	}
	wantConflict(t, r.a, r.net.Conflict()...)
	return count
}

// run fires what is picked till nothing is eligible; the steps, a line each.
func (r runner) run(t *testing.T, picks func(step int) int) (lines []string) {
	t.Helper()
	r.bring(t, r.core.Facts...)
	for r.a.Stratum() >= 0 {
		x, e := r.a.Pick(picks(len(lines)))
		form := r.core.Rules[x.Rule].Head
		ids, grounded := match.Ground(form, x.Subst)
		head := api.Row{Pred: form.Pred, Args: ids}
		fact, named := core.Fact(r.core, head)
		if e != api.OK || !grounded || named != api.OK || r.a.Fire(x) != api.OK {
			t.Fatalf("step %d: %v", len(lines), x)
		}
		lines = append(lines, fmt.Sprint(x.Rule, " ", print.Fact(fact), " ", r.bring(t, head)))
	}
	return lines
}

// model is the net's memory as sorted lines.
func (r runner) model(t *testing.T) string {
	t.Helper()
	var lines []string
	for _, row := range r.net.Rows() {
		fact, _ := core.Fact(r.core, row)
		lines = append(lines, print.Fact(fact))
	}
	slices.Sort(lines)
	return strings.Join(lines, "\n")
}

func TestRunWithoutPicks(t *testing.T) {
	r := newRunner(t, paths)
	want := []string{
		"0 path(a, b) 1", "0 path(b, c) 1", "1 path(a, c) 1", "2 node(a) 1", "2 node(b) 1", "3 node(b) 0", "3 node(c) 1",
		"4 apart(a, a) 1", "4 apart(b, a) 1", "4 apart(b, b) 1", "4 apart(c, a) 1", "4 apart(c, b) 1", "4 apart(c, c) 1",
	}
	if got := r.run(t, func(int) int { return 0 }); !slices.Equal(got, want) {
		t.Errorf("the steps are %q, want %q", got, want)
	}
	if len(r.a.Conflict()) != 13 || len(r.a.Fired()) != 13 {
		t.Errorf("%d acts in the conflict set, %d fired, want 13", len(r.a.Conflict()), len(r.a.Fired()))
	}
}

// Whatever is picked, it comes to the same facts, in thirteen steps.
func TestRunWithPicks(t *testing.T) {
	first := newRunner(t, paths)
	first.run(t, func(int) int { return 0 })
	for seed := 1; seed < 200; seed++ {
		r := newRunner(t, paths)
		steps := r.run(t, func(step int) int { return (step + seed) * (seed%7 - 3) * 31 })
		if got, want := r.model(t), first.model(t); got != want || len(steps) != 13 {
			t.Fatalf("seed %d: %d steps, and the facts\n%s\nwant\n%s", seed, len(steps), got, want)
		}
	}
}

// What a negation lets through for a while goes out again ahead of its stratum's turn.
func TestRunOverAWithdrawal(t *testing.T) {
	r := newRunner(t, "r. p :- not q. q :- r.")
	if got, want := r.run(t, func(int) int { return 0 }), []string{"1 q 1"}; !slices.Equal(got, want) {
		t.Errorf("the steps are %q, want %q", got, want)
	}
	wantConflict(t, r.a, act(1))
	wantFired(t, r.a, act(1))
}
