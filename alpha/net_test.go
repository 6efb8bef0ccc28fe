package alpha_test

import (
	"math"
	"reflect"
	"slices"
	"testing"

	"edict/alpha"
	"edict/api"
)

func made(t *testing.T, shapes ...api.Shape) *alpha.Net {
	t.Helper()
	n, e := alpha.New(shapes)
	if n == nil || e != api.OK {
		t.Fatalf("New(%v) = %v, %d", shapes, n, e)
	}
	return n
}

func wantNoNet(t *testing.T, shapes ...api.Shape) {
	t.Helper()
	if n, e := alpha.New(shapes); n != nil || e != api.ErrArg {
		t.Errorf("New(%v) = %v, %d, want nil, %d", shapes, n, e, api.ErrArg)
	}
}

func wantAdd(t *testing.T, n *alpha.Net, pred int, args []int, want ...int) {
	t.Helper()
	row := n.Len()
	if got, e := n.Add(pred, args); e != api.OK || !slices.Equal(got, want) {
		t.Errorf("Add(%d, %v) = %v, %d, want %v", pred, args, got, e, want)
	}
	wantLen(t, n, row+1)
}

func wantRows(t *testing.T, n *alpha.Net, mem int, want ...int) {
	t.Helper()
	if got, e := n.Rows(mem); e != api.OK || !slices.Equal(got, want) {
		t.Errorf("Rows(%d) = %v, %d, want %v", mem, got, e, want)
	}
}

func wantNoRows(t *testing.T, n *alpha.Net, mem int) {
	t.Helper()
	if got, e := n.Rows(mem); e != api.ErrArg || len(got) > 0 {
		t.Errorf("Rows(%d) = %v, %d, want %d", mem, got, e, api.ErrArg)
	}
}

func wantLen(t *testing.T, n *alpha.Net, want int) {
	t.Helper()
	if got := n.Len(); got != want {
		t.Errorf("Len = %d, want %d", got, want)
	}
}

func wantUndo(t *testing.T, n *alpha.Net, mark int, want api.Errno) {
	t.Helper()
	if got := n.Undo(mark); got != want {
		t.Errorf("Undo(%d) = %d, want %d", mark, got, want)
	}
}

func wantWatch(t *testing.T, n *alpha.Net, mem int, f func(mem int, row int), want api.Errno) {
	t.Helper()
	if got := n.Watch(mem, f); got != want {
		t.Errorf("Watch(%d) = %d, want %d", mem, got, want)
	}
}

// The examples

func example5(t *testing.T) *alpha.Net {
	t.Helper()
	return made(t, any2, twice, fiveOnly, fives)
}

func TestExample5(t *testing.T) {
	n := example5(t)
	wantAdd(t, n, 0, []int{5, 5}, 0, 1, 2, 3)
	wantAdd(t, n, 0, []int{5, 6}, 0, 2)
	wantAdd(t, n, 1, []int{5, 5})
	wantAdd(t, n, 0, []int{6, 6}, 0, 1)
	wantRows(t, n, 0, 0, 1, 3)
	wantRows(t, n, 2, 0, 1)
	wantUndo(t, n, 1, api.OK)
	wantRows(t, n, 0, 0)
	wantLen(t, n, 1)
	wantAdd(t, n, 0, []int{5, 5}, 0, 1, 2, 3)
	wantRows(t, n, 3, 0, 1)
}

func TestExample6(t *testing.T) {
	wantNoNet(t, any2, any2)
	n := made(t)
	wantAdd(t, n, 0, []int{1})
	wantNoRows(t, n, 0)
}

// call is what a watching function was called with, and which one it was.
type call struct {
	who string
	mem int
	row int
}

// log is the calls of watching functions that it made.
type log struct{ calls []call }

func (l *log) watcher(who string) func(mem int, row int) {
	return func(mem int, row int) { l.calls = append(l.calls, call{who, mem, row}) }
}

func (l *log) want(t *testing.T, want ...call) {
	t.Helper()
	if !slices.Equal(l.calls, want) {
		t.Errorf("told %v, want %v", l.calls, want)
	}
}

func TestExample7(t *testing.T) {
	n, l := example5(t), &log{}
	f, g := l.watcher("f"), l.watcher("g")
	wantWatch(t, n, 2, f, api.OK)
	wantWatch(t, n, 0, g, api.OK)
	wantWatch(t, n, 0, f, api.OK)
	wantAdd(t, n, 0, []int{5, 6}, 0, 2)
	l.want(t, call{"g", 0, 0}, call{"f", 0, 0}, call{"f", 2, 0})
}

// P6

func TestNewEdges(t *testing.T) {
	wantNoNet(t, shape(-1))
	wantNoNet(t, shape(0, -2))
	wantNoNet(t, any2, shape(0, 5, -1))
	wantNoNet(t, shape(0, math.MinInt), any2)
	wantNoNet(t, any2, twice, fives, any2)
	wantNoNet(t, api.Shape{}, api.Shape{Cells: []int{}})
	// Like each other, and not the same.
	n := made(t, shape(1), shape(11), shape(1, 1), shape(1, 11), shape(1, 1, 1), shape(11, 1), shape(1, -1))
	for mem := range 7 {
		wantRows(t, n, mem)
	}
	wantNoRows(t, n, 7)
	wantLen(t, n, 0)
}

// P7

func TestAddRefuses(t *testing.T) {
	n, l := made(t, shape(0, -1, -2), shape(1), shape(0)), &log{}
	for mem := range 3 {
		wantWatch(t, n, mem, l.watcher("f"), api.OK)
	}
	wantAdd(t, n, 1, nil, 1)
	for _, r := range []api.Row{
		{Pred: -1}, {Pred: math.MinInt, Args: []int{1, 2}}, {Args: []int{5, -1}}, {Args: []int{-1, 5}}, {Args: []int{math.MinInt, 0}}, {Pred: 7, Args: []int{1, 2, 3, -4}}, {Pred: -1, Args: []int{-1}},
	} {
		if got, e := n.Add(r.Pred, r.Args); e != api.ErrArg || len(got) > 0 {
			t.Errorf("Add(%v) = %v, %d, want %d", r, got, e, api.ErrArg)
		}
		wantLen(t, n, 1)
		wantRows(t, n, 0)
		wantRows(t, n, 1, 0)
		wantRows(t, n, 2)
	}
	wantAdd(t, n, 0, []int{0, math.MaxInt}, 0)
	wantAdd(t, n, math.MaxInt, []int{0})
	l.want(t, call{"f", 1, 0}, call{"f", 0, 1})
}

func TestRowsEdges(t *testing.T) {
	n := made(t, any2, twice)
	for _, mem := range []int{-1, 2, math.MinInt, math.MaxInt} {
		wantNoRows(t, n, mem)
	}
}

// A row that came already, and one of another length, each have a number of their own.
func TestAddTheSame(t *testing.T) {
	n := made(t, shape(3, -1))
	for row := range 4 {
		wantAdd(t, n, 3, []int{9}, 0)
		wantLen(t, n, row+1)
	}
	wantAdd(t, n, 3, nil)
	wantAdd(t, n, 3, []int{9, 9})
	wantAdd(t, n, 3, []int{9}, 0)
	wantRows(t, n, 0, 0, 1, 2, 3, 6)
}

// P8

func TestUndoEdges(t *testing.T) {
	n, l := made(t, any2, twice), &log{}
	wantUndo(t, n, 0, api.OK)
	wantUndo(t, n, 1, api.ErrArg)
	wantAdd(t, n, 0, []int{1, 1}, 0, 1)
	wantAdd(t, n, 0, []int{1, 2}, 0)
	wantAdd(t, n, 2, []int{1})
	wantWatch(t, n, 0, l.watcher("f"), api.OK)
	for _, mark := range []int{-1, 4, math.MinInt, math.MaxInt} {
		wantUndo(t, n, mark, api.ErrArg)
		wantLen(t, n, 3)
		wantRows(t, n, 0, 0, 1)
		wantRows(t, n, 1, 0)
	}
	wantUndo(t, n, 3, api.OK)
	wantLen(t, n, 3)
	wantUndo(t, n, 2, api.OK)
	wantRows(t, n, 0, 0, 1)
	wantUndo(t, n, 1, api.OK)
	wantRows(t, n, 0, 0)
	wantRows(t, n, 1, 0)
	wantUndo(t, n, 0, api.OK)
	wantRows(t, n, 0)
	wantRows(t, n, 1)
	wantLen(t, n, 0)
	l.want(t)
	// Who watched still does.
	wantAdd(t, n, 0, []int{4, 4}, 0, 1)
	l.want(t, call{"f", 0, 0})
}

// P9

func TestWatchRefuses(t *testing.T) {
	n, l := made(t, any2, twice), &log{}
	for _, mem := range []int{-1, 2, math.MinInt, math.MaxInt} {
		wantWatch(t, n, mem, l.watcher("f"), api.ErrArg)
		wantWatch(t, n, mem, nil, api.ErrArg)
	}
	wantWatch(t, n, 0, nil, api.ErrArg)
	wantWatch(t, made(t), 0, l.watcher("f"), api.ErrArg)
	wantAdd(t, n, 0, []int{1, 1}, 0, 1)
	l.want(t)
}

func TestWatchFromThenOn(t *testing.T) {
	n, l := made(t, any2, twice), &log{}
	wantAdd(t, n, 0, []int{1, 1}, 0, 1)
	f := l.watcher("f")
	wantWatch(t, n, 1, f, api.OK)
	wantWatch(t, n, 1, f, api.OK) // the same one twice is called twice
	wantAdd(t, n, 0, []int{1, 2}, 0)
	wantAdd(t, n, 0, []int{2, 2}, 0, 1)
	wantWatch(t, n, 1, l.watcher("g"), api.OK)
	wantAdd(t, n, 0, []int{3, 3}, 0, 1)
	l.want(t, call{"f", 1, 2}, call{"f", 1, 2}, call{"f", 1, 3}, call{"f", 1, 3}, call{"g", 1, 3})
}

// All memories have the row, and Len counts it, at the first call already.
func TestWatchersSeeTheRow(t *testing.T) {
	n := example5(t)
	calls := 0
	wantWatch(t, n, 0, func(mem int, row int) {
		calls++
		wantLen(t, n, row+1)
		for mem := range 4 {
			if got, e := n.Rows(mem); e != api.OK || !slices.Contains(got, row) {
				t.Errorf("Rows(%d) = %v, %d, want %d in it", mem, got, e, row)
			}
		}
	}, api.OK)
	wantAdd(t, n, 0, []int{5, 5}, 0, 1, 2, 3)
	wantAdd(t, n, 0, []int{5, 5}, 0, 1, 2, 3)
	if calls != 2 {
		t.Errorf("%d calls, want 2", calls)
	}
}

func TestWatcherPanics(t *testing.T) {
	n, l := made(t, any2, twice, fives), &log{}
	wantWatch(t, n, 0, l.watcher("f"), api.OK)
	wantWatch(t, n, 1, l.watcher("g"), api.OK)
	angry := true
	wantWatch(t, n, 1, func(int, int) {
		if angry {
			panic("enough")
		}
	}, api.OK)
	wantWatch(t, n, 1, l.watcher("h"), api.OK)
	wantWatch(t, n, 2, l.watcher("i"), api.OK)
	func() {
		defer func() {
			if got := recover(); got != "enough" {
				t.Errorf("the caller of Add sees the panic %v", got)
			}
		}()
		n.Add(0, []int{5, 5})
	}()
	l.want(t, call{"f", 0, 0}, call{"g", 1, 0})
	wantLen(t, n, 1)
	for mem := range 3 {
		wantRows(t, n, mem, 0)
	}
	// The net goes on as if nothing had been.
	angry, l.calls = false, nil
	wantAdd(t, n, 0, []int{4, 4}, 0, 1)
	l.want(t, call{"f", 0, 1}, call{"g", 1, 1}, call{"h", 1, 1})
	wantUndo(t, n, 0, api.OK)
	wantRows(t, n, 1)
}

// What comes of these calls is not told; that nothing panics and all ends is.
func TestWatcherChangesTheNet(t *testing.T) {
	n := example5(t)
	depth := 0
	for mem := range 4 {
		wantWatch(t, n, mem, func(mem int, row int) {
			if depth++; depth > 20 {
				return
			}
			n.Undo(depth % 3)
			n.Add(0, []int{5, 5})
			n.Undo(0)
			n.Watch(mem, func(int, int) {})
			n.Watch(3, func(int, int) {})
			n.Add(0, []int{5, 6})
		}, api.OK)
	}
	n.Add(0, []int{5, 5})
	n.Add(0, []int{5, 5})
	n.Len()
	n.Rows(3)
}

// P10, and DOC.md's P1, P2, P5

func TestNilNet(t *testing.T) {
	var n *alpha.Net
	l := &log{}
	wantWatch(t, n, 0, l.watcher("f"), api.OK)
	wantWatch(t, n, -1, nil, api.OK)
	for _, pred := range []int{0, -1} {
		if got, e := n.Add(pred, []int{pred}); len(got) > 0 || e != api.OK {
			t.Errorf("Add = %v, %d", got, e)
		}
	}
	wantRows(t, n, 0)
	wantRows(t, n, -1)
	wantLen(t, n, 0)
	wantUndo(t, n, 0, api.OK)
	wantUndo(t, n, -1, api.OK)
	l.want(t)
}

func TestNetLeavesWhatIsHandedIn(t *testing.T) {
	cells := roomy([]int{-1, 7, -1}, 9)
	shapes := roomy([]api.Shape{{Cells: cells}, shape(1)}, shape(9))
	args := roomy([]int{3, 7, 3}, 9)
	was := []any{slices.Clone(whole(cells)), slices.Clone(whole(shapes)), slices.Clone(whole(args))}
	n := made(t, shapes...)
	wantWatch(t, n, 0, func(int, int) {}, api.OK)
	wantAdd(t, n, 0, args, 0)
	wantAdd(t, n, 1, args[:0], 1)
	wantUndo(t, n, 0, api.OK)
	if now := []any{whole(cells), whole(shapes), whole(args)}; !reflect.DeepEqual(now, was) {
		t.Errorf("what was handed in is %v, was %v", now, was)
	}
}

func TestNetKeepsNothing(t *testing.T) {
	cells, args := []int{-1, 7, -1}, []int{3, 7, 3}
	shapes := []api.Shape{{Cells: cells}, shape(1)}
	n := made(t, shapes...)
	scribble(cells)
	shapes[0], shapes[1] = shape(5), shape(0, -1, -2, -3)
	wantAdd(t, n, 0, args, 0)
	scribble(args)
	wantAdd(t, n, 0, []int{4, 7, 4}, 0)
	wantAdd(t, n, 0, []int{4, 7, 5})
	wantAdd(t, n, 1, nil, 1)
	wantRows(t, n, 0, 0, 1)
}

func TestNetAnswersAreNewMemory(t *testing.T) {
	n := made(t, any2, twice)
	wantWatch(t, n, 0, func(mem int, row int) {
		got, _ := n.Rows(mem)
		scribble(got)
	}, api.OK)
	for range 20 {
		got, _ := n.Add(0, []int{1, 1})
		scribble(got)
		for mem := range 2 {
			got, _ := n.Rows(mem)
			scribble(append(got, 5, 6, 7))
			again, _ := n.Rows(mem)
			scribble(again)
		}
	}
	want := make([]int, 20)
	for row := range want {
		want[row] = row
	}
	wantRows(t, n, 0, want...)
	wantRows(t, n, 1, want...)
	// What is handed out stays as it is, whatever comes later.
	old, _ := n.Rows(0)
	took, _ := n.Add(0, []int{2, 2})
	wantUndo(t, n, 5, api.OK)
	wantAdd(t, n, 9, nil)
	wantAdd(t, n, 0, []int{2, 3}, 0)
	if !slices.Equal(old, want) || !slices.Equal(took, []int{0, 1}) {
		t.Errorf("answers changed: %v, %v", old, took)
	}
}

func TestTwoNets(t *testing.T) {
	shapes := []api.Shape{any2, twice}
	a, b := made(t, shapes...), made(t, shapes...)
	l := &log{}
	wantWatch(t, a, 0, l.watcher("f"), api.OK)
	wantAdd(t, b, 0, []int{1, 1}, 0, 1)
	wantAdd(t, b, 0, []int{1, 2}, 0)
	l.want(t)
	wantLen(t, a, 0)
	wantRows(t, a, 0)
	wantAdd(t, a, 0, []int{3, 4}, 0)
	wantUndo(t, b, 0, api.OK)
	wantRows(t, a, 0, 0)
	wantRows(t, b, 0)
	l.want(t, call{"f", 0, 0})
}
