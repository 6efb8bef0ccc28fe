package strata_test

import (
	"math"
	"math/rand"
	"slices"
	"testing"

	"edict/api"
	"edict/strata"
)

// What strata answers, held against the chapter's words: a model that knows who reaches whom by going over all pairs, and finds levels and walks by trying till nothing changes.

type model struct {
	n     int
	es    []api.Edge
	reach [][]bool
}

func newModel(n int, es []api.Edge) model {
	m := model{n: n, es: es, reach: make([][]bool, n)}
	for p := range m.reach {
		m.reach[p] = make([]bool, n)
	}
	for _, e := range es {
		m.reach[e.From][e.To] = true
	}
	for by := range n {
		for a := range n {
			for b := 0; m.reach[a][by] && b < n; b++ {
				m.reach[a][b] = m.reach[a][b] || m.reach[by][b]
			}
		}
	}
	return m
}

func (m model) together(a, b int) bool { return a == b || m.reach[a][b] && m.reach[b][a] }

func (m model) componentOf(p int) (members []int) {
	for q := range m.n {
		if m.together(p, q) {
			members = append(members, q)
		}
	}
	return members
}

func (m model) components() (told [][]int) {
	isTold := func(p int) bool {
		return slices.ContainsFunc(told, func(members []int) bool { return slices.Contains(members, p) })
	}
	ready := func(p int) bool {
		for _, e := range m.es {
			if m.together(e.To, p) && !m.together(e.From, p) && !isTold(e.From) {
				return false
			}
		}
		return !isTold(p)
	}
	for {
		next := slices.IndexFunc(upTo(m.n), ready)
		if next < 0 {
			return told
		}
		told = append(told, m.componentOf(next))
	}
}

func (m model) bad() int {
	for num, e := range m.es {
		if e.Neg && m.together(e.From, e.To) {
			return num
		}
	}
	return -1
}

// levels raises what is too low till nothing is, or till a level is above all that a chain of all predicates could ask.
func (m model) levels() ([]int, bool) {
	levels := make([]int, m.n)
	for raised := true; raised; {
		raised = false
		for _, e := range m.es {
			least := levels[e.From]
			if e.Neg {
				least++
			}
			if least > m.n {
				return nil, false
			}
			if levels[e.To] < least {
				levels[e.To], raised = least, true
			}
		}
	}
	return levels, true
}

// better tells whether a walk is the shorter, or the one with the lesser numbers.
func better(a, b []int) bool {
	return len(a) < len(b) || len(a) == len(b) && slices.Compare(a, b) < 0
}

// cycle takes, for every predicate, the best walk to where the closed walk began, till none gets better.
func (m model) cycle() []int {
	bad := m.bad()
	if bad < 0 {
		return nil
	}
	walks := make([][]int, m.n)
	walks[m.es[bad].From] = []int{}
	for changed := true; changed; {
		changed = false
		for num, e := range m.es {
			if walks[e.To] == nil {
				continue
			}
			walk := append([]int{num}, walks[e.To]...)
			if walks[e.From] == nil || better(walk, walks[e.From]) {
				walks[e.From], changed = walk, true
			}
		}
	}
	return append([]int{bad}, walks[m.es[bad].To]...)
}

func (m model) holds(levels []int) bool {
	if len(levels) != m.n || len(levels) > 0 && slices.Min(levels) < 0 {
		return false
	}
	for _, e := range m.es {
		from, to := levels[e.From], levels[e.To]
		if from > to || e.Neg && from >= to {
			return false
		}
	}
	return true
}

func (m model) cyclic(walk []int) bool {
	negated := 0
	for i, num := range walk {
		if num < 0 || num > len(m.es)-1 {
			return false
		}
		next := walk[(i+1)%len(walk)]
		if next < 0 || next > len(m.es)-1 || m.es[num].To != m.es[next].From {
			return false
		}
		if m.es[num].Neg {
			negated++
		}
	}
	return negated > 0
}

// agree holds all calls against the model.
func agree(t *testing.T, n int, es []api.Edge) model {
	t.Helper()
	m := newModel(n, es)
	wantComponents(t, n, es, m.components())
	wantBad(t, n, es, m.bad())
	wantCycle(t, n, es, m.cycle())
	levels, there := m.levels()
	if !there {
		if m.bad() < 0 {
			t.Errorf("the model has no levels and no bad edge: %d, %v", n, es)
		}
		wantLevels(t, n, es, nil, api.ErrStrata)
		wantCyclic(t, n, es, m.cycle(), true)
		return m
	}
	wantLevels(t, n, es, levels, api.OK)
	wantHolds(t, n, es, levels, true)
	return m
}

// every hands over all lists of a length whose elements are among some.
func every[T any](among []T, length int, f func([]T)) {
	list := make([]T, 0, length)
	var longer func()
	longer = func() {
		if len(list) == length {
			f(list)
			return
		}
		for _, x := range among {
			list = append(list, x)
			longer()
			list = list[:len(list)-1]
		}
	}
	longer()
}

// allEdges is each edge that n predicates can have.
func allEdges(n int) (es []api.Edge) {
	for from := range n {
		for to := range n {
			es = append(es, api.Edge{From: from, To: to}, api.Edge{From: from, To: to, Neg: true})
		}
	}
	return es
}

func TestAllSmall(t *testing.T) {
	for n, longest := range []int{0, 4, 4, 3, 2} {
		for length := range longest + 1 {
			every(allEdges(n), length, func(es []api.Edge) { agree(t, n, es) })
		}
	}
}

// TestLeast goes through all mappings: what Levels answers is the least of them in every place (T3).
func TestLeast(t *testing.T) {
	for n, longest := range []int{0, 2, 3, 3} {
		every(allEdges(n), longest, func(es []api.Edge) {
			m := newModel(n, es)
			least := slices.Repeat([]int{math.MaxInt}, n)
			mapped := false
			every(upTo(n+1), n, func(levels []int) {
				held := m.holds(levels)
				wantHolds(t, n, es, levels, held)
				mapped = mapped || held
				for p := 0; held && p < n; p++ {
					least[p] = min(least[p], levels[p])
				}
			})
			if mapped {
				wantLevels(t, n, es, least, api.OK)
			} else {
				wantLevels(t, n, es, nil, api.ErrStrata)
			}
		})
	}
}

// TestWalks goes through all short walks: those that Cyclic takes, and what it then means for Holds (T4).
func TestWalks(t *testing.T) {
	r := rand.New(rand.NewSource(8))
	for range 300 {
		n := 1 + r.Intn(4)
		es := randomEdges(r, n, 1+r.Intn(5))
		m := newModel(n, es)
		closed := false
		for length := range 5 {
			nums := append(upTo(len(es)), -1, len(es))
			every(nums, length, func(walk []int) {
				want := m.cyclic(walk)
				wantCyclic(t, n, es, walk, want)
				closed = closed || want
			})
		}
		if closed {
			every(upTo(n+1), n, func(levels []int) { wantHolds(t, n, es, levels, false) })
		}
	}
}

func randomEdges(r *rand.Rand, n, count int) []api.Edge {
	var es []api.Edge
	for range count {
		es = append(es, api.Edge{From: r.Intn(n), To: r.Intn(n), Neg: r.Intn(4) == 0, Rule: r.Intn(9) - 4})
	}
	return es
}

// layered is edges whose negated ones lead upwards in some order of the predicates, mostly: such that levels are often there.
func layered(r *rand.Rand, n, count int) []api.Edge {
	es := randomEdges(r, n, count)
	height := r.Perm(n)
	for i, e := range es {
		if e.Neg && height[e.From] > height[e.To] || r.Intn(8) > 0 && height[e.From]/3 > height[e.To]/3 {
			es[i].From, es[i].To = e.To, e.From
		}
	}
	return es
}

func TestRandom(t *testing.T) {
	r := rand.New(rand.NewSource(88))
	for range 6000 {
		n := 1 + r.Intn(12)
		agree(t, n, randomEdges(r, n, r.Intn(2*n+2)))
		agree(t, n, layered(r, n, r.Intn(4*n)))
	}
	for range 60 {
		n := 100 + r.Intn(29)
		agree(t, n, randomEdges(r, n, r.Intn(3*n)))
		agree(t, n, layered(r, n, r.Intn(3*n)))
	}
}

// TestRandomMappings holds Holds and Cyclic against the model with lists that are nearly right.
func TestRandomMappings(t *testing.T) {
	r := rand.New(rand.NewSource(888))
	for range 4000 {
		n := 1 + r.Intn(8)
		es := layered(r, n, r.Intn(3*n))
		m := newModel(n, es)
		levels, _ := m.levels()
		for range 4 {
			if len(levels) > 0 {
				levels[r.Intn(len(levels))] += r.Intn(4) - 1
			}
			wantHolds(t, n, es, levels, m.holds(levels))
		}
		walk := m.cycle()
		for range 4 {
			if len(walk) > 0 {
				walk[r.Intn(len(walk))] = r.Intn(len(es)+2) - 1
			}
			wantCyclic(t, n, es, walk, m.cyclic(walk))
		}
	}
}

// TestOrder is T5: the rules' numbers change nothing, and Components and Levels hang neither on the edges' order nor on how often one stands.
func TestOrder(t *testing.T) {
	r := rand.New(rand.NewSource(8888))
	for range 2000 {
		n := 1 + r.Intn(10)
		es := layered(r, n, 1+r.Intn(3*n))
		comps, _ := strata.Components(n, es)
		levels, e := strata.Levels(n, es)
		other := slices.Clone(es)
		for i := range other {
			other[i].Rule = r.Intn(99) - 9
		}
		bad, _ := strata.Bad(n, es)
		cycle, _ := strata.Cycle(n, es)
		wantBad(t, n, other, bad)
		wantCycle(t, n, other, cycle)
		for range r.Intn(9) {
			other = append(other, other[r.Intn(len(other))])
		}
		r.Shuffle(len(other), func(i, j int) { other[i], other[j] = other[j], other[i] })
		wantComponents(t, n, other, comps)
		wantLevels(t, n, other, levels, e)
	}
}

// TestAtOnce asks from several goroutines: no call has to do with another (P3, P5).
func TestAtOnce(t *testing.T) {
	done := make(chan bool)
	for seed := range 4 {
		go func() {
			defer func() { done <- true }()
			r := rand.New(rand.NewSource(int64(seed)))
			for range 200 {
				n := 1 + r.Intn(9)
				agree(t, n, layered(r, n, r.Intn(3*n)))
			}
		}()
	}
	for range 4 {
		<-done
	}
}
