package dump

import (
	"cmp"
	"math"
	"slices"
	"sort"

	"edict/agenda"
	"edict/api"
	"edict/engine"
	"edict/match"
	"edict/rete"
	"edict/strata"
	"edict/sym"
)

// follow has an engine take these steps from Load's state on. Without steps nothing is asked about matches: there may be more than can be gone through.
func follow(e *engine.Engine, acts []api.Act) {
	if len(acts) == 0 {
		return
	}
	t := newTrail(e)
	picks := make([]int, 0, len(acts))
	for _, act := range acts {
		picks = append(picks, t.take(act))
	}
	e.Run(picks, uint64(len(picks)), math.MaxUint64)
}

// trail is a network and an agenda beside an engine, which take its steps ahead of it. An engine is told picks, not acts, and the pick that means an act is its place among all that is eligible at its turn: to ask the engine for these at each step would be far more work than the step.
type trail struct {
	core    api.Core
	levels  []int // by rule: its stratum
	net     *rete.Net
	agenda  *agenda.Agenda
	waiting map[int]int // by stratum: how many acts of the conflict set have not fired
}

func newTrail(e *engine.Engine) *trail {
	c := e.Core()
	levels, _ := strata.Levels(len(c.Preds), strata.Edges(c.Rules)) // Load took the rules, so there are some
	t := &trail{core: c, waiting: map[int]int{}}
	for _, r := range c.Rules {
		t.levels = append(t.levels, levels[r.Head.Pred])
	}
	t.net, _ = rete.New(c.Consts, e.Plan())
	t.agenda = agenda.New(t.levels, c.Consts)
	t.bring(c.Facts...)
	return t
}

// take is the pick that means an act. It gives up where the act is not eligible.
func (t *trail) take(act api.Act) int {
	if t.agenda.Fire(act) != api.OK {
		panic(api.ErrTrail)
	}
	level := t.levels[act.Rule]
	t.waiting[level]--
	// The acts of its stratum that are left are the eligible ones but for this one, in their order. So as many as are ahead of it are ahead of it among the eligible ones too.
	pick := sort.Search(t.waiting[level], func(place int) bool {
		left, _ := t.agenda.Pick(place)
		return t.compare(act, left) < 0
	})
	head := t.core.Rules[act.Rule].Head
	ids, _ := match.Ground(head, act.Subst)
	t.bring(api.Row{Pred: head.Pred, Args: ids})
	return pick
}

// bring has rows come into the memory. No act that has fired comes or goes by that: what it negates was complete when it fired. So each change is one of what waits.
func (t *trail) bring(rows ...api.Row) {
	t.net.Assert(math.MaxUint64, rows...)
	changes := t.net.Changes()
	t.agenda.Apply(changes...)
	for _, change := range changes {
		level := t.levels[change.Act.Rule]
		if change.Came {
			t.waiting[level]++
		} else {
			t.waiting[level]--
		}
	}
}

// compare is the order in which an engine numbers its acts.
func (t *trail) compare(a api.Act, b api.Act) int {
	return cmp.Or(cmp.Compare(a.Rule, b.Rule), slices.CompareFunc(a.Subst, b.Subst, func(x int, y int) int {
		return sym.Compare(t.core.Consts[x], t.core.Consts[y])
	}))
}
