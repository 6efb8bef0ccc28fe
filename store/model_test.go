package store_test

import (
	"fmt"
	"math/rand"
	"slices"
	"testing"

	"edict/api"
	"edict/store"
)

// S1: store held against a plain list of rows, by scripts of calls that both are told.

type memory[S any] interface {
	Add(rows ...api.Row) (int, api.Errno)
	Has(r api.Row) bool
	Num(r api.Row) int
	Row(num int) (api.Row, api.Errno)
	Len() int
	Of(pred int) []int
	Where(pred int, place int, id int) []int
	Each(pred int, yield func(num int, r api.Row) bool)
	Undo(n int) api.Errno
	Try(f func() bool) bool
	Copy() S
}

// plain is the model. Each row has a pointer of its own from its coming on, so that one that came anew is another.
type plain struct {
	arities []int
	rows    []*api.Row
	least   []int // of each Try that has not ended: the least that the length was since its call
}

func (m *plain) may(r api.Row) bool {
	if r.Pred < 0 || r.Pred >= len(m.arities) || len(r.Args) != m.arities[r.Pred] {
		return false
	}
	for _, id := range r.Args {
		if id < 0 {
			return false
		}
	}
	return true
}

func (m *plain) Add(rows ...api.Row) (int, api.Errno) {
	for _, r := range rows {
		if !m.may(r) {
			return 0, api.ErrArg
		}
	}
	n := 0
	for _, r := range rows {
		if !m.Has(r) {
			m.rows = append(m.rows, &api.Row{Pred: r.Pred, Args: slices.Clone(r.Args)})
			n++
		}
	}
	return n, api.OK
}

func (m *plain) Has(r api.Row) bool { return m.Num(r) != -1 }

func (m *plain) Num(r api.Row) int {
	return slices.IndexFunc(m.rows, func(x *api.Row) bool { return x.Pred == r.Pred && slices.Equal(x.Args, r.Args) })
}

func (m *plain) Row(num int) (api.Row, api.Errno) {
	if num < 0 || num >= len(m.rows) {
		return api.Row{}, api.ErrArg
	}
	return *m.rows[num], api.OK
}

func (m *plain) Len() int { return len(m.rows) }

func (m *plain) those(which func(r *api.Row) bool) (nums []int) {
	for num, r := range m.rows {
		if which(r) {
			nums = append(nums, num)
		}
	}
	return nums
}

func (m *plain) Of(pred int) []int {
	return m.those(func(r *api.Row) bool { return r.Pred == pred })
}

func (m *plain) Where(pred int, place int, id int) []int {
	return m.those(func(r *api.Row) bool {
		return r.Pred == pred && place >= 0 && place < len(r.Args) && r.Args[place] == id
	})
}

func (m *plain) Each(pred int, yield func(num int, r api.Row) bool) {
	for _, r := range slices.Clone(m.rows) {
		if num := slices.Index(m.rows, r); r.Pred == pred && num >= 0 && !yield(num, *r) {
			return
		}
	}
}

func (m *plain) Undo(n int) api.Errno {
	if n < 0 || n > len(m.rows) {
		return api.ErrArg
	}
	m.rows = slices.Clone(m.rows[:n])
	for i := range m.least {
		m.least[i] = min(m.least[i], n)
	}
	return api.OK
}

func (m *plain) Try(f func() bool) bool {
	open := len(m.least)
	m.least = append(m.least, len(m.rows))
	held := answer(f)
	least := m.least[open]
	m.least = m.least[:open]
	if !held {
		m.Undo(least)
	}
	return held
}

func answer(f func() bool) (b bool) {
	defer func() { recover() }()
	return f()
}

func (m *plain) Copy() *plain {
	return &plain{arities: m.arities, rows: slices.Clone(m.rows)}
}

// A script is a list of calls; what the function does that Try or Each is given is a script again.

const (
	doAdd = iota
	doUndo
	doTry
	doEach
	doCopy
	doAsk
)

const (
	endTrue = iota
	endFalse
	endPanic
)

type call struct {
	kind   int
	on     int // which of the two stores
	rows   []api.Row
	n      int // Undo's number, Each's predicate, at which of its calls yield ends
	pred   int
	end    int
	inside []call
}

// world is two stores and what they have told.
type world[S memory[S]] struct {
	stores [2]S
	told   []byte
	left   int // how many calls are still made: a script that calls itself over and over is cut here
}

func (w *world[S]) tell(what ...any) { w.told = fmt.Appendln(w.told, what...) }

func (w *world[S]) run(script []call) {
	for _, c := range script {
		if w.left <= 0 {
			return
		}
		w.left--
		w.do(c)
	}
}

func (w *world[S]) do(c call) {
	s := w.stores[c.on]
	switch c.kind {
	case doAdd:
		n, e := s.Add(c.rows...)
		w.tell("add", n, e)
	case doUndo:
		w.tell("undo", s.Undo(c.n))
	case doTry:
		w.tell("try", s.Try(func() bool {
			w.run(c.inside)
			return w.ended(c.end)
		}))
	case doEach:
		w.each(s, c)
	case doCopy:
		w.stores[1-c.on] = s.Copy()
	case doAsk:
		w.tell("ask", s.Len(), s.Of(c.pred), s.Where(c.pred, 0, 1))
	}
}

func (w *world[S]) ended(end int) bool {
	if end == endPanic {
		panic(w)
	}
	return end == endTrue
}

func (w *world[S]) each(s S, c call) {
	defer func() {
		if recover() != nil {
			w.tell("each panicked")
		}
	}()
	turn := 0
	s.Each(c.pred, func(num int, r api.Row) bool {
		w.tell("given", num, r.Pred, r.Args)
		turn++
		w.run(c.inside)
		return turn < c.n || w.ended(c.end)
	})
	w.tell("each ended")
}

var arities = []int{2, 0, 1}

func row(pred int, args ...int) api.Row { return api.Row{Pred: pred, Args: args} }

// universe is all rows by the ids 0 to 2 of these arities.
func universe() (rows []api.Row) {
	rows = append(rows, row(1))
	for a := range 3 {
		rows = append(rows, row(2, a))
		for b := range 3 {
			rows = append(rows, row(0, a, b))
		}
	}
	return rows
}

var odd = []api.Row{row(-1), row(3), row(0), row(0, 1), row(0, 1, 1, 0), row(1, 0), row(2), row(2, -1), row(0, 0, -1), row(2, 1, 0)}

func sameRow(a, b api.Row) bool { return a.Pred == b.Pred && slices.Equal(a.Args, b.Args) }

// differ is the first question that a store and the model answer apart, or "".
func differ(s *store.Store, m *plain, asked []api.Row) string {
	if s.Len() != m.Len() {
		return fmt.Sprint("Len: ", s.Len(), ", want ", m.Len())
	}
	for num := -1; num <= m.Len()+1; num++ {
		r, e := s.Row(num)
		wantR, wantE := m.Row(num)
		if !sameRow(r, wantR) || e != wantE {
			return fmt.Sprint("Row ", num, ": ", r, e, ", want ", wantR, wantE)
		}
	}
	for _, r := range asked {
		if s.Num(r) != m.Num(r) || s.Has(r) != m.Has(r) {
			return fmt.Sprint("Num, Has of ", r, ": ", s.Num(r), s.Has(r), ", want ", m.Num(r))
		}
	}
	for pred := -1; pred <= 3; pred++ {
		if got, want := s.Of(pred), m.Of(pred); !slices.Equal(got, want) {
			return fmt.Sprint("Of ", pred, ": ", got, ", want ", want)
		}
		for place := -1; place <= 2; place++ {
			for id := -1; id <= 3; id++ {
				if got, want := s.Where(pred, place, id), m.Where(pred, place, id); !slices.Equal(got, want) {
					return fmt.Sprint("Where ", pred, place, id, ": ", got, ", want ", want)
				}
			}
		}
	}
	return ""
}

// hold runs a script on two stores and on two models, and holds against each other what they told and what they then answer.
func hold(t *testing.T, script []call, asked []api.Row) {
	t.Helper()
	var real world[*store.Store]
	var model world[*plain]
	real.left, model.left = 500, 500
	for i := range 2 {
		real.stores[i], _ = store.New(arities)
		model.stores[i] = &plain{arities: arities}
	}
	real.run(script)
	model.run(script)
	if string(real.told) != string(model.told) {
		t.Fatalf("script %+v\ntold:\n%s\nwant:\n%s", script, real.told, model.told)
	}
	for i := range 2 {
		if d := differ(real.stores[i], model.stores[i], asked); d != "" {
			t.Fatalf("script %+v\nstore %d: %s", script, i, d)
		}
	}
}

// scripts is all lists of up to n of these calls.
func scripts(n int, of ...call) [][]call {
	all := [][]call{nil}
	last := all
	for range n {
		var next [][]call
		for _, s := range last {
			for _, c := range of {
				next = append(next, append(slices.Clone(s), c))
			}
		}
		all = append(all, next...)
		last = next
	}
	return all
}

func adding(rows ...api.Row) call { return call{kind: doAdd, rows: rows} }

func undoing(n int) call { return call{kind: doUndo, n: n} }

var few = []call{adding(row(2, 0)), adding(row(2, 1)), adding(row(1)), undoing(0), undoing(1), undoing(2)}

func TestShortScripts(t *testing.T) {
	more := slices.Concat(few, []call{adding(row(0, 1, 1), row(2, 1)), adding(row(0, 0, 1), row(0, 1)), undoing(3)})
	for _, s := range scripts(5, more...) {
		hold(t, s, nil)
	}
}

func TestTriesOfShortScripts(t *testing.T) {
	inner := scripts(3, few...)
	for _, ahead := range scripts(2, few[:4]...) {
		for _, inside := range inner {
			for _, end := range []int{endTrue, endFalse, endPanic} {
				hold(t, append(slices.Clone(ahead), call{kind: doTry, inside: inside, end: end}), nil)
			}
		}
	}
}

func TestEachOverShortScripts(t *testing.T) {
	inner := scripts(3, few...)
	full := adding(row(2, 0), row(2, 1), row(2, 2))
	for _, ahead := range [][]call{{full}, {adding(row(1)), full}, {adding(row(2, 1), row(1), row(2, 0), row(0, 1, 1))}} {
		for _, inside := range inner {
			for end := range 3 {
				each := call{kind: doEach, pred: 2, n: end, end: end, inside: inside}
				hold(t, append(slices.Clone(ahead), each), nil)
				hold(t, append(slices.Clone(ahead), call{kind: doTry, inside: []call{each}, end: endFalse}), nil)
			}
		}
	}
}

// A Try inside a Try, and one inside an Each, with all that their ends can be.
func TestTriesInTries(t *testing.T) {
	some := scripts(2, few[0], few[2], undoing(0), undoing(1))
	for _, inside := range some {
		for _, behind := range some {
			for ends := range 9 {
				try := call{kind: doTry, inside: inside, end: ends % 3}
				outer := append([]call{adding(row(2, 2)), try}, behind...)
				hold(t, []call{adding(row(1), row(2, 1)), {kind: doTry, inside: outer, end: ends / 3}}, nil)
				hold(t, []call{adding(row(1), row(2, 1), row(2, 0)), {kind: doEach, pred: 2, n: 9, inside: outer[1:], end: ends / 3}}, nil)
			}
		}
	}
}

func randomRows(r *rand.Rand, from []api.Row) []api.Row {
	rows := make([]api.Row, r.Intn(5))
	for i := range rows {
		rows[i] = from[r.Intn(len(from))]
	}
	if r.Intn(12) == 0 {
		rows = append(rows, odd[r.Intn(len(odd))])
	}
	return rows
}

func randomScript(r *rand.Rand, from []api.Row, deep int) []call {
	script := make([]call, r.Intn(8))
	for i := range script {
		c := call{kind: r.Intn(doAsk + 1), on: r.Intn(8) / 7, pred: r.Intn(4), n: r.Intn(12) - 1, end: r.Intn(3)}
		if deep == 0 && (c.kind == doTry || c.kind == doEach) || c.kind == doUndo && r.Intn(2) == 0 {
			c.kind = doAdd
		}
		switch c.kind {
		case doAdd:
			c.rows = randomRows(r, from)
		case doTry, doEach:
			c.inside = randomScript(r, from, deep-1)
		}
		script[i] = c
	}
	return script
}

func TestRandomScripts(t *testing.T) {
	r := rand.New(rand.NewSource(5))
	from := universe()
	asked := slices.Concat(from, odd)
	for range 6000 {
		begin := []call{adding(randomRows(r, from)...), adding(randomRows(r, from)...)}
		hold(t, append(begin, randomScript(r, from, 3)...), asked)
	}
}
