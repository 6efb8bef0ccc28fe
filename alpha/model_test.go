package alpha_test

import (
	"fmt"
	"math/rand"
	"slices"
	"testing"

	"edict/alpha"
	"edict/api"
)

// What alpha answers, held against what shapes are for: patterns, and the rows that numbers in place of their variables make of them.

// lists is all lists of so many numbers from low to high.
func lists(length, low, high int) [][]int {
	all := [][]int{{}}
	for range length {
		var longer [][]int
		for _, list := range all {
			for n := low; n <= high; n++ {
				longer = append(longer, append(slices.Clone(list), n))
			}
		}
		all = longer
	}
	return all
}

// patterns is all patterns with so many places over variables 0, 1, .. and constants 0, 1, ..
func patterns(places, variables, constants int) (all []api.Pattern) {
	for _, list := range lists(places, -variables, constants-1) {
		p := api.Pattern{Args: make([]api.Slot, places)}
		for place, n := range list {
			p.Args[place] = c(n)
			if n < 0 {
				p.Args[place] = x(-n - 1)
			}
		}
		all = append(all, p)
	}
	return all
}

// makes tells whether some numbers up to high in place of a pattern's variables make it the row, by trying all.
func makes(p api.Pattern, args []int, variables, high int) bool {
	return slices.ContainsFunc(lists(variables, 0, high), func(sub []int) bool {
		made := make([]int, 0, len(p.Args))
		for _, slot := range p.Args {
			if slot.Var {
				made = append(made, sub[slot.N])
			} else {
				made = append(made, slot.N)
			}
		}
		return slices.Equal(made, args)
	})
}

// Valid are just those that are some pattern's shape.
func TestValidIsSomePatternsShape(t *testing.T) {
	for places := range 5 {
		of := map[string]bool{}
		for _, p := range patterns(places, places, 2) {
			of[fmt.Sprint(alpha.Shape(p))] = true
		}
		for _, cells := range lists(places, -places-2, 1) {
			s := shape(0, cells...)
			if got, want := alpha.Valid(s), of[fmt.Sprint(s)]; got != want {
				t.Errorf("Valid(%v) = %v, want %v", s, got, want)
			}
		}
	}
}

// Two patterns have one shape just if the same rows are made of them.
func TestFitsIsWhatPatternsMake(t *testing.T) {
	for places := range 4 {
		const high = 4 // two constants, and a number of its own for each of three variables
		rows := lists(places, 0, high)
		made := map[string]string{}
		for _, p := range patterns(places, places, 2) {
			s := alpha.Shape(p)
			var of [][]int
			for _, args := range rows {
				want := makes(p, args, places, high)
				wantFits(t, s, 0, args, want)
				wantFits(t, s, 1, args, false)
				if want {
					of = append(of, args)
				}
			}
			key := fmt.Sprint(of)
			if was, there := made[key]; there && was != fmt.Sprint(s) {
				t.Errorf("the shapes %v and %s are of the same rows", s, was)
			}
			made[key] = fmt.Sprint(s)
		}
	}
}

// Covers is that every row that fits the one fits the other; rows of all ids up to one above what any cell needs.
func TestCoversIsAPartOfTheRows(t *testing.T) {
	for places := range 4 {
		rows := lists(places, 0, 4)
		var shapes []api.Shape
		for _, cells := range lists(places, -places-1, 1) {
			shapes = append(shapes, shape(0, cells...))
		}
		for _, a := range shapes {
			for _, b := range shapes {
				want := alpha.Valid(a) && alpha.Valid(b)
				for _, args := range rows {
					want = want && (!alpha.Fits(b, 0, args) || alpha.Fits(a, 0, args))
				}
				wantCovers(t, a, b, want)
				if want && !same(a, b) {
					wantCovers(t, b, a, false)
				}
				wantCovers(t, a, api.Shape{Pred: 1, Cells: b.Cells}, false)
			}
		}
	}
}

func TestDistinctOfWildPatterns(t *testing.T) {
	r := rand.New(rand.NewSource(1))
	for range 2000 {
		var ps []api.Pattern
		var want []api.Shape
		for range r.Intn(12) {
			p := api.Pattern{Pred: r.Intn(3) - r.Intn(2)}
			for range r.Intn(4) {
				p.Args = append(p.Args, api.Slot{Var: r.Intn(2) > 0, N: r.Intn(3) - r.Intn(8)/7})
			}
			ps = append(ps, p)
			if s := alpha.Shape(p); s.Pred >= 0 && !slices.ContainsFunc(want, func(w api.Shape) bool { return same(w, s) }) {
				want = append(want, s)
			}
		}
		wantDistinct(t, ps, want...)
	}
}

// A net held against a plain list of rows, by scripts of calls that both are told.

type plain struct {
	shapes  []api.Shape
	rows    []api.Row
	watches [][]string // of each memory, by the order of Watch
}

func (m *plain) has(mem int) bool { return mem >= 0 && mem < len(m.shapes) }

func (m *plain) memoriesOf(r api.Row) (mems []int) {
	for mem, s := range m.shapes {
		if alpha.Fits(s, r.Pred, r.Args) {
			mems = append(mems, mem)
		}
	}
	return mems
}

func (m *plain) add(r api.Row) (mems []int, calls []call, e api.Errno) {
	if r.Pred < 0 || slices.ContainsFunc(r.Args, func(id int) bool { return id < 0 }) {
		return nil, nil, api.ErrArg
	}
	for _, mem := range m.memoriesOf(r) {
		for _, who := range m.watches[mem] {
			calls = append(calls, call{who, mem, len(m.rows)})
		}
	}
	m.rows = append(m.rows, r)
	return m.memoriesOf(r), calls, api.OK
}

func (m *plain) rowsOf(mem int) (nums []int, e api.Errno) {
	if !m.has(mem) {
		return nil, api.ErrArg
	}
	for num, r := range m.rows {
		if slices.Contains(m.memoriesOf(r), mem) {
			nums = append(nums, num)
		}
	}
	return nums, api.OK
}

func (m *plain) undo(mark int) api.Errno {
	if mark < 0 || mark > len(m.rows) {
		return api.ErrArg
	}
	m.rows = m.rows[:mark]
	return api.OK
}

func wildShapes(r *rand.Rand) []api.Shape {
	var ps []api.Pattern
	for range r.Intn(12) {
		p := api.Pattern{Pred: r.Intn(2)}
		for range 1 + r.Intn(3) {
			p.Args = append(p.Args, api.Slot{Var: r.Intn(3) > 0, N: r.Intn(3)})
		}
		ps = append(ps, p)
	}
	return alpha.Distinct(ps)
}

func TestNetByScripts(t *testing.T) {
	for seed := range int64(300) {
		r := rand.New(rand.NewSource(seed))
		m := &plain{shapes: wildShapes(r)}
		m.watches = make([][]string, len(m.shapes))
		n, l := made(t, m.shapes...), &log{}
		for step := range 60 {
			l.calls = nil
			oneStep(t, r, step, n, l, m)
			wantSameNet(t, n, m)
		}
		if t.Failed() {
			t.Fatalf("with seed %d and shapes %v", seed, m.shapes)
		}
	}
}

func oneStep(t *testing.T, r *rand.Rand, step int, n *alpha.Net, l *log, m *plain) {
	t.Helper()
	switch r.Intn(10) {
	case 0:
		mem, who := r.Intn(len(m.shapes)+2)-1, fmt.Sprint(step)
		if !m.has(mem) {
			wantWatch(t, n, mem, l.watcher(who), api.ErrArg)
			return
		}
		wantWatch(t, n, mem, l.watcher(who), api.OK)
		m.watches[mem] = append(m.watches[mem], who)
	case 1:
		mark := r.Intn(len(m.rows)+3) - 1
		wantUndo(t, n, mark, m.undo(mark))
		l.want(t)
	default:
		row := api.Row{Pred: r.Intn(3) - r.Intn(12)/11}
		for range 1 + r.Intn(3) {
			row.Args = append(row.Args, r.Intn(3)-r.Intn(20)/19)
		}
		mems, calls, wantE := m.add(row)
		if got, e := n.Add(row.Pred, row.Args); e != wantE || !slices.Equal(got, mems) {
			t.Errorf("Add(%v) = %v, %d, want %v, %d", row, got, e, mems, wantE)
		}
		l.want(t, calls...)
	}
}

func wantSameNet(t *testing.T, n *alpha.Net, m *plain) {
	t.Helper()
	wantLen(t, n, len(m.rows))
	for mem := -1; mem <= len(m.shapes); mem++ {
		want, wantE := m.rowsOf(mem)
		if got, e := n.Rows(mem); e != wantE || !slices.Equal(got, want) {
			t.Errorf("Rows(%d) = %v, %d, want %v, %d", mem, got, e, want, wantE)
		}
	}
}
