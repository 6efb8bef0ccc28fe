package bound_test

import (
	"math/big"
	"math/rand"
	"sync"
	"sync/atomic"
	"testing"

	"edict/bound"
)

// P9.5

func wantSpend(t *testing.T, m *bound.Meter, n uint64, want bool) {
	t.Helper()
	if got := m.Spend(n); got != want {
		t.Errorf("Spend(%d) = %t, want %t", n, got, want)
	}
}

func wantUsed(t *testing.T, m *bound.Meter, used, left uint64) {
	t.Helper()
	if m.Used() != used || m.Left() != left {
		t.Errorf("Used, Left = %d, %d, want %d, %d", m.Used(), m.Left(), used, left)
	}
}

func TestMeter(t *testing.T) {
	m := bound.NewMeter(5)
	wantUsed(t, m, 0, 5)
	wantSpend(t, m, 3, true)
	wantUsed(t, m, 3, 2)
	wantSpend(t, m, 3, false)
	wantUsed(t, m, 3, 2)
	wantSpend(t, m, most, false)
	wantSpend(t, m, most-2, false) // with 3 it would be 0, if it wrapped
	wantUsed(t, m, 3, 2)
	wantSpend(t, m, 2, true)
	wantUsed(t, m, 5, 0)
	wantSpend(t, m, 1, false)
	wantSpend(t, m, 0, true)
	wantUsed(t, m, 5, 0)
	m.Refund(0)
	wantUsed(t, m, 5, 0)
	m.Refund(1)
	wantUsed(t, m, 4, 1)
	m.Refund(9)
	wantUsed(t, m, 0, 5)
	m.Refund(1)
	wantUsed(t, m, 0, 5)
	wantSpend(t, m, 6, false)
	wantSpend(t, m, 5, true)
	m.Refund(5)
	wantUsed(t, m, 0, 5)
	wantSpend(t, m, 4, true)
	m.Refund(most)
	wantUsed(t, m, 0, 5)
}

func TestMeterOfNothing(t *testing.T) {
	m := bound.NewMeter(0)
	wantUsed(t, m, 0, 0)
	wantSpend(t, m, 0, true)
	wantSpend(t, m, 1, false)
	wantSpend(t, m, most, false)
	m.Refund(1)
	m.Refund(most)
	wantUsed(t, m, 0, 0)
	wantSpend(t, m, 1, false)
}

func TestMeterOfTheGreatest(t *testing.T) {
	m := bound.NewMeter(most)
	wantUsed(t, m, 0, most)
	wantSpend(t, m, most, true)
	wantSpend(t, m, 1, false)
	wantSpend(t, m, most, false)
	wantSpend(t, m, 0, true)
	wantUsed(t, m, most, 0)
	m.Refund(1)
	wantUsed(t, m, most-1, 1)
	wantSpend(t, m, 2, false)
	wantSpend(t, m, 1, true)
	m.Refund(most)
	wantUsed(t, m, 0, most)
	wantSpend(t, m, 1<<63, true)
	wantSpend(t, m, 1<<63, false)
	wantSpend(t, m, 1<<63-1, true)
	wantUsed(t, m, most, 0)
}

// TestTwoMeters is P5.
func TestTwoMeters(t *testing.T) {
	a, b := bound.NewMeter(5), bound.NewMeter(5)
	wantSpend(t, a, 5, true)
	wantUsed(t, b, 0, 5)
	wantSpend(t, b, 2, true)
	b.Refund(1)
	wantUsed(t, a, 5, 0)
	wantUsed(t, b, 1, 4)
}

func TestNilMeter(t *testing.T) {
	var m *bound.Meter
	for _, n := range []uint64{0, 1, most} {
		wantSpend(t, m, n, false)
		m.Refund(n)
		wantUsed(t, m, 0, 0)
	}
}

// deed is a call of a meter, and what it answered: of Spend 1 for true.
type deed struct {
	kind      int
	n         uint64
	answer    uint64
	from, end int64 // when it was begun, and when it had answered, by a count that all goroutines share
}

const (
	spend = iota
	refund
	used
	left
	kinds
)

func (d *deed) do(m *bound.Meter) {
	switch d.kind {
	case spend:
		if m.Spend(d.n) {
			d.answer = 1
		}
	case refund:
		m.Refund(d.n)
	case used:
		d.answer = m.Used()
	case left:
		d.answer = m.Left()
	}
}

// model is a meter by the chapter's words: what is used before a deed to what is used behind it, and whether it may answer so.
func model(limit, before uint64, d deed) (behind uint64, right bool) {
	switch d.kind {
	case spend:
		together := new(big.Int).Add(whole(before), whole(d.n))
		if together.Cmp(whole(limit)) > 0 {
			return before, d.answer == 0
		}
		return together.Uint64(), d.answer == 1
	case refund:
		if d.n > before {
			return 0, true
		}
		return before - d.n, true
	case used:
		return before, d.answer == before
	default:
		return before, d.answer == limit-before
	}
}

func randomDeed(r *rand.Rand, limit uint64) deed {
	n := r.Uint64() >> r.Intn(64)
	if r.Intn(4) > 0 && limit < most {
		n %= limit + 1
	}
	return deed{kind: r.Intn(kinds), n: n}
}

func TestMeterOneByOne(t *testing.T) {
	r := rand.New(rand.NewSource(5))
	for range 3000 {
		limit := r.Uint64() >> r.Intn(64)
		if r.Intn(8) == 0 {
			limit = most
		}
		m := bound.NewMeter(limit)
		before := uint64(0)
		for range 40 {
			d := randomDeed(r, limit)
			d.do(m)
			behind, right := model(limit, before, d)
			if !right {
				t.Fatalf("limit %d, used %d: %+v", limit, before, d)
			}
			wantUsed(t, m, behind, limit-behind)
			before = behind
		}
	}
}

// P9.6

// inSomeOrder tells whether the deeds that are not done yet can have been done one behind the other, each between its beginning and its end, such that what is used comes to last.
func inSomeOrder(limit, before, last uint64, deeds []deed, done []bool) bool {
	earliest, all := int64(0), true
	for i, d := range deeds {
		if !done[i] && (all || d.end < earliest) {
			earliest, all = d.end, false
		}
	}
	if all {
		return before == last
	}
	for i, d := range deeds {
		if done[i] || d.from > earliest {
			continue
		}
		behind, right := model(limit, before, d)
		if !right {
			continue
		}
		done[i] = true
		if inSomeOrder(limit, behind, last, deeds, done) {
			return true
		}
		done[i] = false
	}
	return false
}

// TestAsIfInSomeOrder lets three goroutines do three deeds each at the same time, and looks for an order that tells the same.
func TestAsIfInSomeOrder(t *testing.T) {
	r := rand.New(rand.NewSource(6))
	const each = 3
	for range 4000 {
		limit := uint64(1 + r.Intn(9))
		m := bound.NewMeter(limit)
		deeds := make([]deed, 3*each)
		for i := range deeds {
			deeds[i] = randomDeed(r, limit)
		}
		var now atomic.Int64
		var wg sync.WaitGroup
		start := make(chan bool)
		for first := 0; first < len(deeds); first += each {
			wg.Go(func() {
				<-start
				for i := first; i < first+each; i++ {
					deeds[i].from = now.Add(1)
					deeds[i].do(m)
					deeds[i].end = now.Add(1)
				}
			})
		}
		close(start)
		wg.Wait()
		if !inSomeOrder(limit, 0, m.Used(), deeds, make([]bool, len(deeds))) {
			t.Fatalf("limit %d, used %d: %+v", limit, m.Used(), deeds)
		}
	}
}

// TestNoOrder gives inSomeOrder what no order can tell: so it isn't blind.
func TestNoOrder(t *testing.T) {
	both := []deed{{kind: spend, n: 3, answer: 1, from: 1, end: 4}, {kind: spend, n: 3, answer: 1, from: 2, end: 3}}
	if inSomeOrder(5, 0, 3, both, make([]bool, 2)) || !inSomeOrder(6, 0, 6, both, make([]bool, 2)) || inSomeOrder(6, 0, 3, both, make([]bool, 2)) {
		t.Error("two spends")
	}
	late := []deed{{kind: spend, n: 3, answer: 1, from: 1, end: 2}, {kind: used, answer: 0, from: 3, end: 4}}
	if inSomeOrder(5, 0, 3, late, make([]bool, 2)) {
		t.Error("an answer from before")
	}
	late[1].from, late[0].end = 2, 3
	if !inSomeOrder(5, 0, 3, late, make([]bool, 2)) {
		t.Error("an answer at the same time")
	}
}

// TestNeverMore lets many goroutines hold parts of a limit for a while: together they never hold more, and nothing is lost.
func TestNeverMore(t *testing.T) {
	const limit = 10
	m := bound.NewMeter(limit)
	var held atomic.Int64
	var wg sync.WaitGroup
	for i := range 8 {
		wg.Go(func() {
			n := uint64(1 + i%4)
			for range 20000 {
				if m.Used() > limit || m.Left() > limit {
					t.Error("a sum wrapped")
				}
				if !m.Spend(n) {
					continue
				}
				if held.Add(int64(n)) > limit {
					t.Error("more is held than the limit")
				}
				held.Add(-int64(n))
				m.Refund(n)
			}
		})
	}
	wg.Wait()
	wantUsed(t, m, 0, limit)
}

// TestNoneLost counts what was spent, and what was given back, by goroutines at the same time.
func TestNoneLost(t *testing.T) {
	const each, limit = 20000, 100000
	m := bound.NewMeter(limit)
	var spent atomic.Uint64
	var wg sync.WaitGroup
	for range 8 {
		wg.Go(func() {
			for range each {
				if m.Spend(1) {
					spent.Add(1)
				}
			}
		})
	}
	wg.Wait()
	if spent.Load() != limit {
		t.Errorf("%d were spent of %d", spent.Load(), limit)
	}
	wantUsed(t, m, limit, 0)
	for range 4 {
		wg.Go(func() {
			for range each {
				m.Refund(1)
			}
		})
	}
	wg.Wait()
	wantUsed(t, m, limit-4*each, 4*each)
	for range 8 {
		wg.Go(func() {
			for range each {
				m.Refund(1)
			}
		})
	}
	wg.Wait()
	wantUsed(t, m, 0, limit)
}

// TestNilAtOnce has nothing to lock.
func TestNilAtOnce(t *testing.T) {
	var m *bound.Meter
	var wg sync.WaitGroup
	for range 4 {
		wg.Go(func() {
			for range 1000 {
				wantSpend(t, m, 0, false)
				m.Refund(1)
				wantUsed(t, m, 0, 0)
			}
		})
	}
	wg.Wait()
}
