package store_test

import (
	"errors"
	"fmt"
	"math"
	"runtime"
	"slices"
	"sync"
	"testing"

	"edict/api"
	"edict/store"
)

func p(a, b int) api.Row { return row(0, a, b) }

func q() api.Row { return row(1) }

func r(a int) api.Row { return row(2, a) }

// made is a store of the arities 2 0 1 with these rows.
func made(t *testing.T, rows ...api.Row) *store.Store {
	t.Helper()
	s, e := store.New(arities)
	if s == nil || e != api.OK {
		t.Fatalf("New = %v, %d", s, e)
	}
	if n, e := s.Add(rows...); n != len(rows) || e != api.OK {
		t.Fatalf("Add(%v) = %d, %d", rows, n, e)
	}
	return s
}

// third is the store behind the examples 2 and 3.
func third(t *testing.T) *store.Store {
	t.Helper()
	return made(t, p(7, 7), p(7, 8), q(), r(7))
}

func want[T comparable](t *testing.T, what string, got, want T) {
	t.Helper()
	if got != want {
		t.Errorf("%s = %v, want %v", what, got, want)
	}
}

func wantList(t *testing.T, what string, got []int, want ...int) {
	t.Helper()
	if !slices.Equal(got, want) {
		t.Errorf("%s = %v, want %v", what, got, want)
	}
}

func wantAdd(t *testing.T, s *store.Store, n int, e api.Errno, rows ...api.Row) {
	t.Helper()
	if gotN, gotE := s.Add(rows...); gotN != n || gotE != e {
		t.Errorf("Add(%v) = %d, %d, want %d, %d", rows, gotN, gotE, n, e)
	}
}

// wantRows holds every answer of a store against that of the model with these rows.
func wantRows(t *testing.T, s *store.Store, rows ...api.Row) {
	t.Helper()
	m := &plain{arities: arities}
	if n, _ := m.Add(rows...); n != len(rows) {
		t.Fatalf("no list without doubles: %v", rows)
	}
	if d := differ(s, m, slices.Concat(rows, universe(), odd)); d != "" {
		t.Error(d)
	}
	for pred := range arities {
		var got, want []string
		s.Each(pred, func(num int, r api.Row) bool { got = append(got, fmt.Sprint(num, r)); return true })
		m.Each(pred, func(num int, r api.Row) bool { want = append(want, fmt.Sprint(num, r)); return true })
		if !slices.Equal(got, want) {
			t.Errorf("Each(%d) gives %v, want %v", pred, got, want)
		}
	}
}

// given is the numbers that Each hands over, while yield also does something else.
func given(s *store.Store, pred int, also func(num int) bool) (nums []int) {
	s.Each(pred, func(num int, _ api.Row) bool {
		nums = append(nums, num)
		return also(num)
	})
	return nums
}

// The examples

func TestExample1(t *testing.T) {
	s := made(t)
	want(t, "Len", s.Len(), 0)
	wantList(t, "Of(0)", s.Of(0))
	want(t, "Num(q)", s.Num(q()), -1)
	want(t, "Undo(0)", s.Undo(0), api.OK)
	want(t, "Undo(1)", s.Undo(1), api.ErrArg)
	want(t, "Undo(-1)", s.Undo(-1), api.ErrArg)
	if r, e := s.Row(0); !sameRow(r, api.Row{}) || e != api.ErrArg {
		t.Errorf("Row(0) = %v, %d", r, e)
	}
	wantAdd(t, s, 0, api.OK)
	if s, e := store.New([]int{9}); s != nil || e != api.ErrArg {
		t.Errorf("New of 9 = %v, %d", s, e)
	}
	s, e := store.New(nil)
	if s == nil || e != api.OK {
		t.Fatalf("New of none = %v, %d", s, e)
	}
	for _, x := range slices.Concat(odd, universe()) {
		wantAdd(t, s, 0, api.ErrArg, x)
	}
	wantAdd(t, s, 0, api.OK)
	want(t, "Len", s.Len(), 0)
}

func TestExamples2To5(t *testing.T) {
	s := made(t)
	wantAdd(t, s, 3, api.OK, p(7, 7), p(7, 8), p(7, 7), q())
	wantList(t, "numbers", []int{s.Num(p(7, 7)), s.Num(p(7, 8)), s.Num(q())}, 0, 1, 2)
	wantAdd(t, s, 1, api.OK, q(), r(7))
	want(t, "Num(r(7))", s.Num(r(7)), 3)

	wantList(t, "Of(0)", s.Of(0), 0, 1)
	wantList(t, "Of(1)", s.Of(1), 2)
	wantList(t, "Of(9)", s.Of(9))
	wantList(t, "Where(0, 0, 7)", s.Where(0, 0, 7), 0, 1)
	wantList(t, "Where(0, 1, 7)", s.Where(0, 1, 7), 0)
	wantList(t, "Where(0, 1, 8)", s.Where(0, 1, 8), 1)
	wantList(t, "Where(0, 2, 7)", s.Where(0, 2, 7))
	wantList(t, "Where(1, 0, 0)", s.Where(1, 0, 0))
	want(t, "Num(p(7, 8))", s.Num(p(7, 8)), 1)
	want(t, "Has(p(8, 7))", s.Has(p(8, 7)), false)

	wantAdd(t, s, 0, api.ErrArg, r(9), r(-1))
	want(t, "Len", s.Len(), 4)
	wantAdd(t, s, 0, api.ErrArg, row(0, 1))
	wantAdd(t, s, 0, api.ErrArg, row(3))

	wantAdd(t, s, 2, api.OK, r(9), p(1, 1))
	want(t, "Undo(4)", s.Undo(4), api.OK)
	want(t, "Len", s.Len(), 4)
	want(t, "Num(r(9))", s.Num(r(9)), -1)
	wantList(t, "Where(2, 0, 9)", s.Where(2, 0, 9))
	wantAdd(t, s, 1, api.OK, p(1, 1))
	want(t, "Num(p(1, 1))", s.Num(p(1, 1)), 4)
	want(t, "Undo(2)", s.Undo(2), api.OK)
	wantRows(t, s, p(7, 7), p(7, 8))
	wantAdd(t, s, 1, api.OK, r(7))
	want(t, "Num(r(7))", s.Num(r(7)), 2)
}

func TestExample6(t *testing.T) {
	s := third(t)
	var told []string
	s.Each(0, func(num int, r api.Row) bool { told = append(told, fmt.Sprint(num, r.Pred, r.Args)); return true })
	if !slices.Equal(told, []string{"0 0 [7 7]", "1 0 [7 8]"}) {
		t.Errorf("Each(0) gives %v", told)
	}
	wantList(t, "a yield that answers false", given(s, 0, func(int) bool { return false }), 0)
	wantList(t, "a yield that adds", given(s, 0, func(num int) bool { s.Add(p(5, num)); return true }), 0, 1)
	wantRows(t, s, p(7, 7), p(7, 8), q(), r(7), p(5, 0), p(5, 1))

	s = third(t)
	nums := given(s, 0, func(num int) bool {
		if num == 0 {
			s.Undo(1)
			s.Add(p(7, 8))
		}
		return true
	})
	wantList(t, "a yield that brings a row anew", nums, 0)
	wantRows(t, s, p(7, 7), p(7, 8))
}

func TestExample7(t *testing.T) {
	s := third(t)
	want(t, "a Try that fails", s.Try(func() bool { s.Add(r(9)); return false }), false)
	wantRows(t, s, p(7, 7), p(7, 8), q(), r(7))
	held := s.Try(func() bool {
		s.Add(r(9))
		s.Try(func() bool { s.Add(r(10)); panic("given up") })
		return true
	})
	want(t, "a Try that holds", held, true)
	wantRows(t, s, p(7, 7), p(7, 8), q(), r(7), r(9))
	want(t, "Has(r(10))", s.Has(r(10)), false)

	s = third(t)
	want(t, "a Try that undoes", s.Try(func() bool { s.Undo(1); s.Add(r(8)); return false }), false)
	wantRows(t, s, p(7, 7))
}

func TestExample8(t *testing.T) {
	s := third(t)
	x, _ := s.Row(0)
	x.Args[0] = 5
	want(t, "Num(p(7, 7))", s.Num(p(7, 7)), 0)
	if x, e := s.Row(0); !sameRow(x, p(7, 7)) || e != api.OK {
		t.Errorf("Row(0) = %v, %d", x, e)
	}
}

// New

func TestNewLimits(t *testing.T) {
	most := make([]int, api.MaxPreds)
	most[0], most[127] = api.MaxArity, api.MaxArity
	s, e := store.New(most)
	if s == nil || e != api.OK {
		t.Fatalf("New of 128 = %v, %d", s, e)
	}
	eight := []int{1, 2, 3, 4, 5, 6, 7, 8}
	wantAdd(t, s, 2, api.OK, row(127, eight...), row(126))
	wantAdd(t, s, 0, api.ErrArg, row(128))
	wantAdd(t, s, 0, api.ErrArg, row(127, 1, 2, 3, 4, 5, 6, 7))
	wantAdd(t, s, 0, api.ErrArg, row(127, 1, 2, 3, 4, 5, 6, 7, 8, 9))
	for place, id := range eight {
		wantList(t, "Where of 127", s.Where(127, place, id), 0)
		wantList(t, "Where of 127", s.Where(127, place, id+1))
	}
	wantList(t, "Of(126)", s.Of(126), 1)
	for _, wrong := range [][]int{make([]int, 129), {9}, {-1}, {0, 8, 9}, {2, -1, 2}, {math.MaxInt}, {math.MinInt}, append(most, 9)} {
		if s, e := store.New(wrong); s != nil || e != api.ErrArg {
			t.Errorf("New(%v) = %v, %d", wrong, s, e)
		}
	}
	for arity := range api.MaxArity + 1 {
		s, e := store.New([]int{arity})
		if s == nil || e != api.OK {
			t.Fatalf("New of %d = %v, %d", arity, s, e)
		}
		wantAdd(t, s, 1, api.OK, row(0, eight[:arity]...))
	}
}

// The rows that may be

func TestRowsThatMayNotBe(t *testing.T) {
	s := made(t, p(1, 0), r(1), q(), p(0, 0), r(0))
	wrong := slices.Concat(odd, []api.Row{
		row(math.MaxInt), row(math.MinInt), row(2, math.MinInt), row(0, 0, math.MinInt),
		row(1, 0, 0), row(0, 1, 0, 0), row(2, make([]int, 8)...), row(2, make([]int, 9)...), row(0, make([]int, 1000)...),
	})
	for _, x := range wrong {
		wantAdd(t, s, 0, api.ErrArg, x)
		wantAdd(t, s, 0, api.ErrArg, r(2), x)
		wantAdd(t, s, 0, api.ErrArg, x, r(2))
		wantAdd(t, s, 0, api.ErrArg, q(), x, q())
		if s.Has(x) || s.Num(x) != -1 {
			t.Errorf("%v is in: %v, %d", x, s.Has(x), s.Num(x))
		}
	}
	wantRows(t, s, p(1, 0), r(1), q(), p(0, 0), r(0))
}

func TestGreatIds(t *testing.T) {
	s := made(t, p(math.MaxInt, 0), p(0, math.MaxInt), r(math.MaxInt), r(1<<40))
	wantRows(t, s, p(math.MaxInt, 0), p(0, math.MaxInt), r(math.MaxInt), r(1<<40))
	wantList(t, "Where(0, 1, greatest)", s.Where(0, 1, math.MaxInt), 1)
	wantAdd(t, s, 0, api.OK, r(math.MaxInt))
	for _, x := range []int{math.MinInt, -1, math.MaxInt} {
		wantList(t, "Of", s.Of(x))
		wantList(t, "Where of a predicate", s.Where(x, 0, 0))
		wantList(t, "Where of a place", s.Where(0, x, 0))
		if _, e := s.Row(x); e != api.ErrArg {
			t.Errorf("Row(%d) = %d", x, e)
		}
		want(t, "Undo", s.Undo(x), api.ErrArg)
		s.Each(x, func(int, api.Row) bool { t.Errorf("Each(%d) calls", x); return true })
	}
	wantList(t, "Where of an id", s.Where(2, 0, -1))
	want(t, "Len", s.Len(), 4)
}

// S2

func TestRowsAndNumbers(t *testing.T) {
	rows := universe()
	s := made(t, rows...)
	for num, x := range rows {
		want(t, "Num", s.Num(x), num)
		back, e := s.Row(num)
		if !sameRow(back, x) || e != api.OK {
			t.Errorf("Row(%d) = %v, %d, want %v", num, back, e, x)
		}
		for pred := -1; pred <= 3; pred++ {
			want(t, "a row is in Of", slices.Contains(s.Of(pred), num), pred == x.Pred)
			for place := -1; place <= 8; place++ {
				for id := -1; id <= 3; id++ {
					holds := pred == x.Pred && place >= 0 && place < len(x.Args) && x.Args[place] == id
					want(t, "a row is in Where", slices.Contains(s.Where(pred, place, id), num), holds)
				}
			}
		}
	}
}

func TestManyRows(t *testing.T) {
	s := made(t)
	const many = 20000
	for i := range many {
		s.Add(p(i%200, i))
	}
	want(t, "Len", s.Len(), many)
	want(t, "how many of 7", len(s.Where(0, 0, 7)), many/200)
	want(t, "Undo", s.Undo(many/2), api.OK)
	want(t, "how many of 7", len(s.Where(0, 0, 7)), many/400)
	want(t, "Num of the last", s.Num(p((many/2-1)%200, many/2-1)), many/2-1)
	want(t, "Num of the next", s.Num(p((many/2)%200, many/2)), -1)
	want(t, "Undo", s.Undo(0), api.OK)
	wantRows(t, s)
}

// S3

func TestUndoBringsBackAll(t *testing.T) {
	all := universe()
	for n := range all {
		for more := range len(all) - n {
			s := made(t, all[:n]...)
			s.Add(all[n : n+more]...)
			s.Add(all[len(all)-more:]...)
			want(t, "Undo", s.Undo(n), api.OK)
			wantRows(t, s, all[:n]...)
			wantAdd(t, s, 1, api.OK, all[len(all)-1])
			want(t, "the next number", s.Num(all[len(all)-1]), n)
			if t.Failed() {
				return
			}
		}
	}
}

func TestUndoAtTheLength(t *testing.T) {
	s := third(t)
	want(t, "Undo(4)", s.Undo(4), api.OK)
	want(t, "Undo(5)", s.Undo(5), api.ErrArg)
	want(t, "Undo(-1)", s.Undo(-1), api.ErrArg)
	wantRows(t, s, p(7, 7), p(7, 8), q(), r(7))
	want(t, "Undo(3)", s.Undo(3), api.OK)
	want(t, "Undo(4) of three", s.Undo(4), api.ErrArg)
	wantRows(t, s, p(7, 7), p(7, 8), q())
}

// S4

func TestEachEnds(t *testing.T) {
	s := made(t, r(0), q(), r(1), r(2), r(3))
	for n := 1; n <= 4; n++ {
		calls := 0
		nums := given(s, 2, func(int) bool { calls++; return calls < n })
		wantList(t, "Each(2)", nums, s.Of(2)[:n]...)
	}
	s.Each(2, nil)
	s.Each(0, nil)
	s.Each(9, nil)
	wantList(t, "Each(0)", given(s, 0, func(int) bool { return true }))
	wantRows(t, s, r(0), q(), r(1), r(2), r(3))
}

func TestEachOverWhatGoesAndComes(t *testing.T) {
	begin := []api.Row{r(0), q(), r(1), r(2)}
	for _, c := range []struct {
		what  string
		yield func(s *store.Store, num int) bool
		given []int
		rows  []api.Row
	}{
		{"takes out its own row", func(s *store.Store, num int) bool { s.Undo(num); return true },
			[]int{0}, nil},
		{"takes out the last row", func(s *store.Store, num int) bool { s.Undo(3); return true },
			[]int{0, 2}, begin[:3]},
		{"brings the last row anew with its number", func(s *store.Store, num int) bool { s.Undo(3); s.Add(r(2)); return true },
			[]int{0, 2}, begin},
		{"brings its own row anew", func(s *store.Store, num int) bool { s.Undo(num); s.Add(r(0)); return true },
			[]int{0}, begin[:1]},
		{"brings rows anew in another order", func(s *store.Store, num int) bool { s.Undo(1); s.Add(r(2), r(1), q()); return true },
			[]int{0}, []api.Row{r(0), r(2), r(1), q()}},
		{"brings another row with an old number", func(s *store.Store, num int) bool { s.Undo(2); s.Add(r(8), r(9)); return true },
			[]int{0}, []api.Row{r(0), q(), r(8), r(9)}},
		{"adds without an end", func(s *store.Store, num int) bool { s.Add(r(s.Len() + 50)); return true },
			[]int{0, 2, 3}, []api.Row{r(0), q(), r(1), r(2), r(54), r(55), r(56)}},
		{"adds and takes out again", func(s *store.Store, num int) bool { s.Add(r(7)); s.Undo(4); return true },
			[]int{0, 2, 3}, begin},
		{"tries what fails", func(s *store.Store, num int) bool {
			return !s.Try(func() bool { s.Undo(3); s.Add(r(2)); return false })
		}, []int{0, 2}, begin[:3]},
		{"tries what holds", func(s *store.Store, num int) bool {
			return s.Try(func() bool { s.Undo(3); s.Add(r(2)); return true })
		}, []int{0, 2}, begin},
		{"undoes what may not be", func(s *store.Store, num int) bool { s.Undo(5); s.Undo(-1); return true },
			[]int{0, 2, 3}, begin},
	} {
		s := made(t, begin...)
		wantList(t, "a yield that "+c.what+": given", given(s, 2, func(num int) bool { return c.yield(s, num) }), c.given...)
		wantRows(t, s, c.rows...)
		wantAdd(t, s, 1, api.OK, p(2, 2))
	}
}

func TestEachPanics(t *testing.T) {
	s := third(t)
	calls := 0
	got := caught(func() {
		s.Each(0, func(int, api.Row) bool { calls++; s.Add(r(1)); s.Undo(1); s.Add(r(2)); panic("mine") })
	})
	if got != "mine" || calls != 1 {
		t.Errorf("the panic comes as %v, behind %d calls", got, calls)
	}
	wantRows(t, s, p(7, 7), r(2))
	held := s.Try(func() bool {
		s.Each(2, func(int, api.Row) bool { s.Add(q()); panic("mine") })
		return true
	})
	want(t, "a Try whose Each panics", held, false)
	wantRows(t, s, p(7, 7), r(2))
}

func caught(f func()) (with any) {
	defer func() { with = recover() }()
	f()
	return nil
}

// S5

func TestTryEndsEveryPanic(t *testing.T) {
	var none *[]int
	for i, f := range []func(){
		func() { panic("text") },
		func() { panic(errors.New("an error")) },
		func() { panic(nil) },
		func() { panic(true) },
		func() { none := []int{}; none[i0] = 1 },
		func() { *none = nil },
		func() { var m map[int]int; m[0] = 1 },
		func() { defer panic("again"); panic("first") },
	} {
		s := third(t)
		calls := 0
		held := s.Try(func() bool {
			calls++
			s.Add(r(0), r(1))
			f()
			return true
		})
		if held || calls != 1 {
			t.Errorf("panic %d: %v behind %d calls", i, held, calls)
		}
		wantRows(t, s, p(7, 7), p(7, 8), q(), r(7))
	}
}

var i0 = 0

// Where f ends the goroutine, Try can answer nothing; but what came is gone.
func TestTryWithoutAnAnswer(t *testing.T) {
	s := third(t)
	var over sync.WaitGroup
	over.Go(func() {
		s.Try(func() bool {
			s.Add(r(0))
			runtime.Goexit()
			return true
		})
	})
	over.Wait()
	wantRows(t, s, p(7, 7), p(7, 8), q(), r(7))
}

func TestTryCallsOnce(t *testing.T) {
	for _, b := range []bool{true, false} {
		s := third(t)
		calls := 0
		want(t, "Try", s.Try(func() bool { calls++; return b }), b)
		want(t, "calls", calls, 1)
		wantRows(t, s, p(7, 7), p(7, 8), q(), r(7))
	}
	s := third(t)
	want(t, "Try(nil)", s.Try(nil), false)
	wantRows(t, s, p(7, 7), p(7, 8), q(), r(7))
}

func TestTryBelowItsBegin(t *testing.T) {
	begin := []api.Row{r(0), r(1), r(2), r(3)}
	for _, c := range []struct {
		what        string
		f           func(s *store.Store)
		held, taken []api.Row
	}{
		{"undoes and brings the same", func(s *store.Store) { s.Undo(2); s.Add(r(2), r(3)) }, begin, begin[:2]},
		{"undoes twice", func(s *store.Store) { s.Undo(3); s.Add(r(3)); s.Undo(1); s.Add(r(1), r(2), r(3), q()) }, append(begin[:4:4], q()), begin[:1]},
		{"undoes the lower first", func(s *store.Store) { s.Undo(1); s.Add(r(1), r(2), r(3)); s.Undo(3) }, begin[:3], begin[:1]},
		{"undoes all", func(s *store.Store) { s.Undo(0); s.Add(begin...) }, begin, nil},
		{"adds and undoes what it added", func(s *store.Store) { s.Add(q(), p(1, 1)); s.Undo(5) }, append(begin[:4:4], q()), begin},
		{"undoes alone", func(s *store.Store) { s.Undo(2) }, begin[:2], begin[:2]},
		{"tries below", func(s *store.Store) { s.Try(func() bool { s.Undo(2); s.Add(r(2)); return false }); s.Add(r(3)) }, []api.Row{r(0), r(1), r(3)}, begin[:2]},
	} {
		s := made(t, begin...)
		want(t, c.what, s.Try(func() bool { c.f(s); return true }), true)
		wantRows(t, s, c.held...)
		s = made(t, begin...)
		want(t, c.what, s.Try(func() bool { c.f(s); return false }), false)
		wantRows(t, s, c.taken...)
		s = made(t, begin...)
		want(t, c.what, s.Try(func() bool { c.f(s); panic(c.what) }), false)
		wantRows(t, s, c.taken...)
	}
}

func TestTriesNestedDeep(t *testing.T) {
	const deep = 1000
	for _, failing := range []int{-1, 0, 1, 500, deep - 1} {
		s := made(t)
		var down func(level int) bool
		down = func(level int) bool {
			return level == deep || s.Try(func() bool {
				s.Add(r(level))
				down(level + 1)
				return level != failing
			})
		}
		down(0)
		wantLen := deep
		if failing >= 0 {
			wantLen = failing
		}
		want(t, "Len", s.Len(), wantLen)
	}
}

// S6

func TestNothingHandedInIsKept(t *testing.T) {
	handed := []int{2, 0, 1}
	s, _ := store.New(handed)
	handed[0], handed[1] = 1, 1
	room := []int{7, 8, 99, 99}
	rows := make([]api.Row, 0, 4)
	rows = append(rows, api.Row{Pred: 0, Args: room[:2]}, q(), api.Row{Pred: 2, Args: room[1:2]})
	wantAdd(t, s, 3, api.OK, rows...)
	if !slices.Equal(room, []int{7, 8, 99, 99}) || rows[:4][3].Args != nil {
		t.Errorf("Add wrote into what it was given: %v, %v", room, rows[:4])
	}
	s.Has(rows[0])
	s.Num(rows[0])
	room[0], room[1] = 1, 1
	rows[1].Pred = 2
	wantRows(t, s, p(7, 8), q(), r(8))
}

func TestNothingHandedInIsChanged(t *testing.T) {
	handed := []int{2, 0, 1, 55}
	s, _ := store.New(handed[:3])
	room := []int{1, 0, 55, 56}
	rows := []api.Row{{Pred: 0, Args: room[:2]}, q(), {Pred: 0, Args: room[:2]}, {Pred: 2, Args: room[3:]}}
	s.Add(rows[:3]...)
	s.Add(rows[0], row(9))
	s.Has(rows[0])
	s.Num(rows[0])
	s.Copy()
	s.Undo(0)
	if !slices.Equal(handed, []int{2, 0, 1, 55}) || !slices.Equal(room, []int{1, 0, 55, 56}) {
		t.Errorf("what was handed in is now %v, %v", handed, room)
	}
	for i, want := range []api.Row{p(1, 0), q(), p(1, 0), r(56)} {
		if !sameRow(rows[i], want) {
			t.Errorf("row %d is now %v", i, rows[i])
		}
	}
}

// spoil writes all over a list and the spare room behind it.
func spoil(list []int) {
	list = list[:cap(list)]
	for i := range list {
		list[i] = -5
	}
}

func TestWhatIsHandedOutIsNew(t *testing.T) {
	rows := []api.Row{p(1, 0), r(1), q(), p(1, 1), r(2), p(1, 2)}
	s := made(t, rows...)
	var kept [][]int
	for range 2 {
		for num := range rows {
			x, _ := s.Row(num)
			kept = append(kept, x.Args)
		}
		for pred := range arities {
			s.Each(pred, func(_ int, x api.Row) bool {
				kept = append(kept, x.Args)
				return true
			})
			kept = append(kept, s.Of(pred))
			for id := range 3 {
				kept = append(kept, s.Where(pred, 0, id), s.Where(pred, 1, id))
			}
		}
	}
	wantApart(t, kept)
	for i, list := range kept {
		copied := make([][]int, len(kept))
		for j := range kept {
			copied[j] = slices.Clone(kept[j])
		}
		spoil(list)
		for j := range kept {
			if i != j && !slices.Equal(kept[j], copied[j]) {
				t.Fatalf("what is written into list %d is seen in list %d", i, j)
			}
		}
	}
	wantRows(t, s, rows...)
	wantAdd(t, s, 1, api.OK, p(2, 2))
	wantRows(t, s, append(rows, p(2, 2))...)
}

// wantApart: no two lists share a place, the spare room counted in.
func wantApart(t *testing.T, lists [][]int) {
	t.Helper()
	places := map[*int]int{}
	for i, list := range lists {
		whole := list[:cap(list)]
		for k := range whole {
			if j, there := places[&whole[k]]; there {
				t.Fatalf("the lists %d and %d share memory", j, i)
			}
			places[&whole[k]] = i
		}
	}
}

// What a yield does with its row is not seen in the rest of that Each either.
func TestYieldSpoilsItsRows(t *testing.T) {
	s := made(t, p(1, 0), p(1, 1), q(), p(0, 1))
	for range 2 {
		var told []string
		s.Each(0, func(num int, x api.Row) bool {
			told = append(told, fmt.Sprint(num, x.Args))
			spoil(x.Args)
			spoil(s.Of(0))
			return true
		})
		if !slices.Equal(told, []string{"0 [1 0]", "1 [1 1]", "3 [0 1]"}) {
			t.Errorf("Each(0) gives %v", told)
		}
	}
	wantRows(t, s, p(1, 0), p(1, 1), q(), p(0, 1))
}

func TestAListOutlivesItsStore(t *testing.T) {
	s := made(t, r(0), r(1), r(2))
	of, where := s.Of(2), s.Where(2, 0, 1)
	x, _ := s.Row(1)
	s.Undo(0)
	s.Add(q(), r(1), r(5))
	wantList(t, "Of(2) of then", of, 0, 1, 2)
	wantList(t, "Where(2, 0, 1) of then", where, 1)
	wantList(t, "Row(1) of then", x.Args, 1)
}

func TestCopyLivesItsOwnLife(t *testing.T) {
	begin := []api.Row{r(0), p(1, 1), q(), r(1)}
	for _, c := range []struct {
		what string
		do   func(s *store.Store)
		rows []api.Row
	}{
		{"add", func(s *store.Store) { s.Add(p(0, 1), r(2)) }, append(begin[:4:4], p(0, 1), r(2))},
		{"undo", func(s *store.Store) { s.Undo(1) }, begin[:1]},
		{"undo and add", func(s *store.Store) { s.Undo(2); s.Add(r(2), q()) }, []api.Row{r(0), p(1, 1), r(2), q()}},
		{"try", func(s *store.Store) { s.Try(func() bool { s.Undo(3); s.Add(r(2)); return false }) }, begin[:3]},
	} {
		first := made(t, begin...)
		second := first.Copy()
		wantRows(t, second, begin...)
		c.do(first)
		wantRows(t, first, c.rows...)
		wantRows(t, second, begin...)

		first = made(t, begin...)
		second = first.Copy()
		c.do(second)
		wantRows(t, first, begin...)
		wantRows(t, second, c.rows...)
		c.do(first.Copy().Copy())
		wantRows(t, first, begin...)
	}
}

func TestCopyInsideATry(t *testing.T) {
	for end := range 3 {
		s := made(t, r(0), r(1))
		var inside *store.Store
		s.Try(func() bool {
			s.Undo(1)
			s.Add(r(2))
			inside = s.Copy()
			s.Add(q())
			if end == endPanic {
				panic("given up")
			}
			return end == endTrue
		})
		wantRows(t, inside, r(0), r(2))
	}
	// What the copy's own Try does is no business of the first store's Try, nor the other way round.
	s := made(t, r(0))
	second := s.Copy()
	held := s.Try(func() bool {
		s.Add(r(1))
		second.Add(r(5))
		second.Try(func() bool { second.Add(q()); s.Add(r(2)); return false })
		return true
	})
	want(t, "Try", held, true)
	wantRows(t, s, r(0), r(1), r(2))
	wantRows(t, second, r(0), r(5))
}

func TestCopyOfAFewArities(t *testing.T) {
	s, _ := store.New(nil)
	second := s.Copy()
	if second == nil || second.Len() != 0 {
		t.Fatal("the copy of a store without predicates")
	}
	wantAdd(t, second, 0, api.ErrArg, q())
	second = made(t).Copy()
	wantAdd(t, second, 1, api.OK, q())
	wantAdd(t, second, 0, api.ErrArg, row(1, 0))
}

// P1

func TestNoStore(t *testing.T) {
	var s *store.Store
	called := false
	wantAdd(t, s, 0, api.OK, q())
	wantAdd(t, s, 0, api.OK, row(-1))
	want(t, "Has", s.Has(q()), false)
	want(t, "Num", s.Num(q()), 0)
	want(t, "Num of what may not be", s.Num(row(-1)), 0)
	for _, num := range []int{-1, 0, 1} {
		if x, e := s.Row(num); !sameRow(x, api.Row{}) || e != api.OK {
			t.Errorf("Row(%d) = %v, %d", num, x, e)
		}
		want(t, "Undo", s.Undo(num), api.OK)
		wantList(t, "Of", s.Of(num))
		wantList(t, "Where", s.Where(num, 0, 0))
		s.Each(num, func(int, api.Row) bool { called = true; return true })
	}
	want(t, "Len", s.Len(), 0)
	want(t, "Try", s.Try(func() bool { called = true; return true }), false)
	want(t, "Try(nil)", s.Try(nil), false)
	s.Each(0, nil)
	if s.Copy() != nil || called {
		t.Errorf("Copy = %v; called: %v", s.Copy(), called)
	}
}

// P5

func TestStoresSideBySide(t *testing.T) {
	var over sync.WaitGroup
	first := third(t)
	for range 4 {
		s := first.Copy()
		over.Go(func() {
			for i := range 200 {
				s.Try(func() bool { s.Add(r(i), p(i, i)); return i%2 == 0 })
				s.Undo(4)
			}
			wantRows(t, s, p(7, 7), p(7, 8), q(), r(7))
		})
	}
	over.Wait()
	wantRows(t, first, p(7, 7), p(7, 8), q(), r(7))
}

// What only asks may be asked from several sides at once.
func TestAskedSideBySide(t *testing.T) {
	var over sync.WaitGroup
	s := third(t)
	for range 4 {
		over.Go(func() { wantRows(t, s, p(7, 7), p(7, 8), q(), r(7)) })
	}
	over.Wait()
}
