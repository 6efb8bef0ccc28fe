package alpha

import (
	"slices"

	"edict/api"
)

// Net is the memories of some shapes.
type Net struct {
	memories []memory
	of       map[int][]int // by predicate: the memories of its shapes, rising
	rows     int
}

// memory is the rows that fit one shape, by their numbers, rising.
type memory struct {
	fits     func(args []int) bool // of a row of the shape's predicate
	rows     []int
	watchers []watcher
}

type watcher struct {
	tell func(mem int, row int)
}

// New is a net with empty memories, number i for the shape number i.
func New(shapes []api.Shape) (*Net, api.Errno) {
	n := &Net{of: map[int][]int{}}
	met := meeting{}
	for mem, s := range shapes {
		if !Valid(s) || !met.isNew(s) {
			return nil, api.ErrArg
		}
		n.memories = append(n.memories, memory{fits: testOf(s)})
		n.of[s.Pred] = append(n.of[s.Pred], mem)
	}
	return n, api.OK
}

// Watch has f called with a memory's number and a row's for each row that comes into that memory from now on.
func (n *Net) Watch(mem int, f func(mem int, row int)) api.Errno {
	if n == nil {
		return api.OK
	}
	if !n.has(mem) || f == nil {
		return api.ErrArg
	}
	m := &n.memories[mem]
	m.watchers = append(m.watchers, watcher{tell: f})
	return api.OK
}

// Add brings the next row (numbers 0, 1, ..): the memories that took it, rising.
func (n *Net) Add(pred int, args []int) ([]int, api.Errno) {
	if n == nil {
		return nil, api.OK
	}
	if pred < 0 || slices.ContainsFunc(args, noId) {
		return nil, api.ErrArg
	}
	row := n.rows
	took := n.take(pred, args)
	for _, mem := range took {
		for _, w := range n.memories[mem].watchers {
			w.tell(mem, row)
		}
	}
	return took, api.OK
}

// Rows is the numbers of a memory's rows, rising.
func (n *Net) Rows(mem int) ([]int, api.Errno) {
	if n == nil {
		return nil, api.OK
	}
	if !n.has(mem) {
		return nil, api.ErrArg
	}
	return slices.Clone(n.memories[mem].rows), api.OK
}

// Len tells how many rows came.
func (n *Net) Len() int {
	if n == nil {
		return 0
	}
	return n.rows
}

// Undo takes out all rows with numbers of mark and above.
func (n *Net) Undo(mark int) api.Errno {
	if n == nil {
		return api.OK
	}
	if mark < 0 || mark > n.rows {
		return api.ErrArg
	}
	for mem := range n.memories {
		m := &n.memories[mem]
		stay, _ := slices.BinarySearch(m.rows, mark)
		m.rows = m.rows[:stay]
	}
	n.rows = mark
	return api.OK
}

// testOf is the test of a valid shape, with cells of its own: the caller's may change.
func testOf(s api.Shape) func(args []int) bool {
	cells := slices.Clone(s.Cells)
	return func(args []int) bool { return fitCells(cells, args) }
}

func noId(id int) bool { return id < 0 }

func (n *Net) has(mem int) bool { return mem >= 0 && mem < len(n.memories) }

// take puts the next row into each memory that it fits.
func (n *Net) take(pred int, args []int) []int {
	var took []int
	for _, mem := range n.of[pred] {
		m := &n.memories[mem]
		if m.fits(args) {
			m.rows = append(m.rows, n.rows)
			took = append(took, mem)
		}
	}
	n.rows++
	return took
}
