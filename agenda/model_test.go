package agenda_test

import (
	"cmp"
	"math/rand"
	"slices"
	"testing"

	"edict/agenda"
	"edict/api"
	"edict/sym"
)

// An agenda held against the chapter's words: two lists of acts, gone through at each question.

type plain struct {
	levels   []int
	cs       []api.Const
	conflict []api.Act
	fired    []api.Act
}

func has(acts []api.Act, x api.Act) bool {
	return slices.ContainsFunc(acts, func(other api.Act) bool { return sameAct(other, x) })
}

func without(acts []api.Act, x api.Act) []api.Act {
	return slices.DeleteFunc(slices.Clone(acts), func(other api.Act) bool { return sameAct(other, x) })
}

func (m *plain) isOne(x api.Act) bool {
	noPlace := func(id int) bool { return id < 0 || id >= len(m.cs) }
	return x.Rule >= 0 && x.Rule < len(m.levels) && !slices.ContainsFunc(x.Subst, noPlace)
}

func (m *plain) level(x api.Act) int { return max(m.levels[x.Rule], 0) }

// compare is P3's order.
func (m *plain) compare(a, b api.Act) int {
	if a.Rule != b.Rule {
		return cmp.Compare(a.Rule, b.Rule)
	}
	for place := range min(len(a.Subst), len(b.Subst)) {
		one, other := a.Subst[place], b.Subst[place]
		if one == other {
			continue
		}
		if by := sym.Compare(m.cs[one], m.cs[other]); by != 0 {
			return by
		}
		return cmp.Compare(one, other)
	}
	return cmp.Compare(len(a.Subst), len(b.Subst))
}

func (m *plain) sorted(acts []api.Act) []api.Act {
	return slices.SortedFunc(slices.Values(acts), m.compare)
}

// waiting is what of the conflict set has not fired.
func (m *plain) waiting() (acts []api.Act) {
	for _, x := range m.conflict {
		if !has(m.fired, x) {
			acts = append(acts, x)
		}
	}
	return acts
}

func (m *plain) stratum() int {
	lowest := -1
	for _, x := range m.waiting() {
		if lowest == -1 || m.level(x) < lowest {
			lowest = m.level(x)
		}
	}
	return lowest
}

func (m *plain) eligible() (acts []api.Act) {
	for _, x := range m.waiting() {
		if m.level(x) == m.stratum() {
			acts = append(acts, x)
		}
	}
	return m.sorted(acts)
}

func (m *plain) apply(changes []api.Change) (int, api.Errno) {
	for num, change := range changes {
		in := has(m.conflict, change.Act)
		switch {
		case !m.isOne(change.Act):
			return num, api.ErrArg
		case change.Came && in:
			return num, api.ErrTwice
		case change.Came:
			m.conflict = append(m.conflict, change.Act)
		case !in:
			return num, api.ErrNone
		default:
			m.conflict = without(m.conflict, change.Act)
		}
	}
	return len(changes), api.OK
}

func (m *plain) fire(x api.Act) api.Errno {
	switch {
	case !m.isOne(x):
		return api.ErrArg
	case has(m.fired, x):
		return api.ErrTwice
	case !has(m.conflict, x):
		return api.ErrNone
	case m.level(x) > m.stratum():
		return api.ErrState
	}
	m.fired = append(m.fired, x)
	return api.OK
}

// wild makes agendas, acts and calls.
type wild struct {
	*rand.Rand
	m *plain
}

// constant is one of few, so that some stand twice; a few are not valid.
func (w wild) constant() api.Const {
	c := api.Const{Kind: 1 + w.Intn(3)}
	if c.Kind == api.KInt {
		c.Int = int64(w.Intn(5) - 2)
	} else {
		c.Text = []string{"a", "ab", "b", "B"}[w.Intn(4)]
	}
	if w.Intn(10) == 0 {
		c = api.Const{Kind: w.Intn(6) - 1, Int: int64(w.Intn(2)), Text: []string{"", "a"}[w.Intn(2)]}
	}
	return c
}

func newWild(seed int64) wild {
	w := wild{Rand: rand.New(rand.NewSource(seed)), m: &plain{}}
	for range w.Intn(6) {
		w.m.levels = append(w.m.levels, w.Intn(5)-1)
	}
	for range w.Intn(6) {
		w.m.cs = append(w.m.cs, w.constant())
	}
	return w
}

// act is one of the agenda's, as a rule, and one that it knows, often.
func (w wild) act() api.Act {
	known := slices.Concat(w.m.conflict, w.m.fired)
	if len(known) > 0 && w.Intn(3) == 0 {
		return known[w.Intn(len(known))]
	}
	x := api.Act{Rule: w.Intn(max(len(w.m.levels), 1))}
	if w.Intn(40) == 0 {
		x.Rule = len(w.m.levels) - (len(w.m.levels)+1)*w.Intn(2)
	}
	for range w.Intn(4) {
		id := w.Intn(max(len(w.m.cs), 1))
		if w.Intn(60) == 0 {
			id = len(w.m.cs) - (len(w.m.cs)+1)*w.Intn(2)
		}
		x.Subst = append(x.Subst, id)
	}
	return x
}

// changes is some that may be, as a rule.
func (w wild) changes() (changes []api.Change) {
	for range w.Intn(5) {
		x := w.act()
		changes = append(changes, api.Change{Came: !has(w.m.conflict, x) != (w.Intn(8) == 0), Act: x})
	}
	return changes
}

func agree(t *testing.T, a *agenda.Agenda, m *plain) {
	t.Helper()
	wantEligible(t, a, m.stratum(), m.eligible()...)
	wantConflict(t, a, m.sorted(m.conflict)...)
	wantFired(t, a, m.sorted(m.fired)...)
}

// call makes one call, to the agenda and to the model.
func (w wild) call(t *testing.T, a *agenda.Agenda) {
	t.Helper()
	if eligible := w.m.eligible(); len(eligible) > 0 && w.Intn(3) == 0 {
		pick := w.Int() - w.Int()
		x, e := a.Pick(pick)
		if want := eligible[modulo(pick, len(eligible))]; e != api.OK || !sameAct(x, want) {
			t.Errorf("Pick(%d) of %v = %v, %d, want %v, OK", pick, eligible, x, e, want)
		}
		wantFire(t, a, w.m.fire(x), x)
		return
	}
	if w.Intn(3) == 0 {
		x := w.act()
		wantFire(t, a, w.m.fire(x), x)
		return
	}
	changes := w.changes()
	count, code := w.m.apply(changes)
	wantApply(t, a, count, code, changes...)
}

func TestScriptsAgreeWithTheModel(t *testing.T) {
	for seed := range int64(1500) {
		w := newWild(seed)
		a := agenda.New(w.m.levels, w.m.cs)
		for range 40 {
			w.call(t, a)
			agree(t, a, w.m)
			if t.Failed() {
				t.Fatalf("seed %d, levels %v, constants %v", seed, w.m.levels, w.m.cs)
			}
		}
	}
}

// Thousands of acts come, go and fire, here and there: the picks are the places of Eligible, which is sorted.
func TestManyActsComeAndGo(t *testing.T) {
	const many = 40
	w := wild{Rand: rand.New(rand.NewSource(3)), m: &plain{levels: []int{1, 0, 1}, cs: ints(many)}}
	a := agenda.New(w.m.levels, w.m.cs)
	waits := map[[4]int]int{}
	for round := range 60 {
		for range 500 {
			k := [4]int{w.Intn(3), w.Intn(many), w.Intn(many), w.Intn(4)}
			x := act(k[0], k[1], k[2], k[3])
			switch waits[k] {
			case 0:
				wantApply(t, a, 1, api.OK, api.Change{Came: true, Act: x})
				waits[k] = 1
			case 1:
				if round%20 < 10 && w.Intn(4) > 0 { // so that there are many for a while, and then few
					continue
				}
				wantApply(t, a, 1, api.OK, api.Change{Act: x})
				waits[k] = 0
			}
		}
		want := w.m.sorted(left(waits))
		stratum := -1
		for _, level := range []int{1, 0} {
			if some := slices.ContainsFunc(want, func(x api.Act) bool { return w.m.level(x) == level }); some {
				stratum = level
			}
		}
		want = slices.DeleteFunc(want, func(x api.Act) bool { return w.m.level(x) != stratum })
		wantEligible(t, a, stratum, want...)
		for place := range want {
			wantPick(t, a, place-len(want), want[place])
		}
		if t.Failed() {
			t.Fatalf("round %d", round)
		}
		for range min(len(want), 300) {
			x, _ := a.Pick(w.Int() - w.Int())
			if code := a.Fire(x); code != api.OK {
				t.Fatalf("Fire(%v) = %d", x, code)
			}
			waits[[4]int{x.Rule, x.Subst[0], x.Subst[1], x.Subst[2]}] = 2
		}
	}
}

// left is the acts that wait, in no order.
func left(waits map[[4]int]int) (acts []api.Act) {
	for k, state := range waits {
		if state == 1 {
			acts = append(acts, act(k[0], k[1], k[2], k[3]))
		}
	}
	return acts
}
