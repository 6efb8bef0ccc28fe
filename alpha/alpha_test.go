package alpha_test

import (
	"math"
	"reflect"
	"slices"
	"testing"

	"edict/alpha"
	"edict/api"
)

func x(n int) api.Slot { return api.Slot{Var: true, N: n} }

func c(n int) api.Slot { return api.Slot{N: n} }

func pat(pred int, slots ...api.Slot) api.Pattern { return api.Pattern{Pred: pred, Args: slots} }

func shape(pred int, cells ...int) api.Shape { return api.Shape{Pred: pred, Cells: cells} }

func same(a, b api.Shape) bool { return a.Pred == b.Pred && slices.Equal(a.Cells, b.Cells) }

// The shapes of the chapter's example 4.
var (
	twice    = shape(0, -1, -1)
	fives    = shape(0, 5, 5)
	any2     = shape(0, -1, -2)
	fiveOnly = shape(0, 5, -2)
)

func wantShape(t *testing.T, p api.Pattern, want api.Shape) {
	t.Helper()
	if got := alpha.Shape(p); !same(got, want) {
		t.Errorf("Shape(%v) = %v, want %v", p, got, want)
	}
}

func wantValid(t *testing.T, s api.Shape, want bool) {
	t.Helper()
	if got := alpha.Valid(s); got != want {
		t.Errorf("Valid(%v) = %v, want %v", s, got, want)
	}
}

func wantFits(t *testing.T, s api.Shape, pred int, args []int, want bool) {
	t.Helper()
	if got := alpha.Fits(s, pred, args); got != want {
		t.Errorf("Fits(%v, %d, %v) = %v, want %v", s, pred, args, got, want)
	}
}

func wantCovers(t *testing.T, a, b api.Shape, want bool) {
	t.Helper()
	if got := alpha.Covers(a, b); got != want {
		t.Errorf("Covers(%v, %v) = %v, want %v", a, b, got, want)
	}
}

func wantDistinct(t *testing.T, ps []api.Pattern, want ...api.Shape) {
	t.Helper()
	if got := alpha.Distinct(ps); !slices.EqualFunc(got, want, same) {
		t.Errorf("Distinct(%v) = %v, want %v", ps, got, want)
	}
}

// The examples

func TestExample1(t *testing.T) {
	wantShape(t, pat(0, x(4), c(7), x(4), x(2)), shape(0, -1, 7, -1, -4))
	wantShape(t, pat(0, x(2), c(7), x(2), x(4)), shape(0, -1, 7, -1, -4))
	wantShape(t, pat(3), shape(3))
	wantShape(t, pat(0, x(0), c(-2)), shape(-1))
}

func TestExample2(t *testing.T) {
	wantValid(t, shape(0, -1, 7, -1, -4), true)
	wantValid(t, shape(0, -2, -2), false)
	wantValid(t, shape(0, -1, -1, -2), false)
	wantValid(t, shape(0, 5, -1), false)
	wantValid(t, shape(0, -1, -3), false)
	wantValid(t, shape(-1), false)
	wantValid(t, shape(0), true)
}

func TestExample3(t *testing.T) {
	s := shape(0, -1, 7, -1, -4)
	wantFits(t, s, 0, []int{3, 7, 3, 7}, true)
	wantFits(t, s, 0, []int{3, 7, 4, 7}, false)
	wantFits(t, s, 0, []int{7, 7, 7, 7}, true)
	wantFits(t, s, 0, []int{3, 7, 3}, false)
	wantFits(t, s, 1, []int{3, 7, 3, 7}, false)
}

func TestExample4(t *testing.T) {
	wantCovers(t, twice, fives, true)
	wantCovers(t, any2, twice, true)
	wantCovers(t, twice, any2, false)
	wantCovers(t, fiveOnly, fives, true)
	wantCovers(t, fiveOnly, twice, false)
	wantCovers(t, twice, fiveOnly, false)
	wantCovers(t, any2, any2, true)
}

// P1

func TestValidEdges(t *testing.T) {
	wantValid(t, api.Shape{}, true)
	wantValid(t, shape(math.MaxInt, math.MaxInt, 0, -3), true)
	wantValid(t, shape(math.MinInt, 1), false)
	wantValid(t, shape(-1, -1), false)
	for _, cell := range []int{-2, -3, -9, math.MinInt, math.MinInt + 1} {
		wantValid(t, shape(0, cell), false)
		wantValid(t, shape(0, 4, min(cell, -3)), false)
	}
	// The last place of many may be wrong.
	long := make([]int, 1000)
	for place := range long {
		long[place] = -1 - place
	}
	wantValid(t, shape(0, long...), true)
	long[999] = -1 - 998
	wantValid(t, shape(0, long...), true)
	long[998] = -1 - 997
	wantValid(t, shape(0, long...), false)
	long[998] = 998
	wantValid(t, shape(0, long...), false)
}

// P2

func TestShapeNumbers(t *testing.T) {
	wantShape(t, pat(0, x(math.MinInt), x(-1), x(math.MinInt), x(math.MaxInt), x(-1)), shape(0, -1, -2, -1, -4, -2))
	// A constant's id and a variable's number that are the same have nothing to do with each other.
	wantShape(t, pat(0, c(1), x(1), c(1), x(1), x(0), c(0)), shape(0, 1, -2, 1, -2, -5, 0))
	wantShape(t, pat(math.MaxInt, c(math.MaxInt)), shape(math.MaxInt, math.MaxInt))
	wantShape(t, api.Pattern{}, shape(0))
}

func TestShapeOfNone(t *testing.T) {
	for _, p := range []api.Pattern{
		pat(-1), pat(-1, x(0), c(3)), pat(math.MinInt), pat(0, c(-1)), pat(0, c(-1), x(0)), pat(2, x(0), x(1), x(0), c(math.MinInt)), pat(-5, c(-5)),
	} {
		wantShape(t, p, shape(-1))
		wantValid(t, alpha.Shape(p), false)
	}
}

func TestShapeOfManyPlaces(t *testing.T) {
	const places = 200000
	p := api.Pattern{Args: make([]api.Slot, places)}
	want := make([]int, places)
	for place := range p.Args {
		p.Args[place] = x(place - places/4)
		want[place] = -1 - place
	}
	p.Args[places-1], want[places-1] = p.Args[7], -1-7
	wantShape(t, p, shape(0, want...))
	wantValid(t, shape(0, want...), true)
	args := slices.Repeat([]int{3}, places)
	wantFits(t, shape(0, want...), 0, args, true)
	args[7] = 4
	wantFits(t, shape(0, want...), 0, args, false)
	wantDistinct(t, []api.Pattern{p, p}, shape(0, want...))
}

// P3

func TestFitsEdges(t *testing.T) {
	wantFits(t, shape(2), 2, nil, true)
	wantFits(t, shape(2), 2, []int{}, true)
	wantFits(t, shape(2), 2, []int{0}, false)
	wantFits(t, shape(2), 3, nil, false)
	// Ids of no constant are compared all the same.
	wantFits(t, shape(0, -1, 7, -1, -4), 0, []int{-3, 7, -3, math.MinInt}, true)
	wantFits(t, shape(0, -1, 7, -1, -4), 0, []int{-3, 7, -4, -9}, false)
	wantFits(t, shape(0, -1, -1), 0, []int{-2, -2}, true)
	// What is not valid fits nothing, also where the places would agree.
	wantFits(t, shape(-1), -1, nil, false)
	wantFits(t, shape(-1, 4), -1, []int{4}, false)
	wantFits(t, shape(0, -2, -2), 0, []int{1, 1}, false)
	wantFits(t, shape(0, 5, -1), 0, []int{5, 5}, false)
	wantFits(t, shape(0, -1, -1, -2), 0, []int{4, 4, 4}, false)
	wantFits(t, shape(0, -9), 0, []int{4}, false)
	wantFits(t, shape(0, math.MinInt), 0, []int{math.MinInt}, false)
}

// P4

func TestCoversEdges(t *testing.T) {
	wantCovers(t, any2, shape(1, -1, -2), false)
	wantCovers(t, any2, shape(0, -1), false)
	wantCovers(t, shape(0, -1), any2, false)
	wantCovers(t, shape(0), shape(0), true)
	wantCovers(t, shape(0), shape(1), false)
	wantCovers(t, twice, shape(0, 5, 6), false)
	wantCovers(t, shape(0, -1, -2, -2), shape(0, 3, -2, -2), true)
	wantCovers(t, shape(0, -1, -2, -2), shape(0, -1, -1, -1), true)
	wantCovers(t, shape(0, -1, -2, -2), shape(0, -1, -1, -3), false)
	wantCovers(t, shape(0, -1, -1, -3), shape(0, -1, -1, -1), true)
	// What is not valid covers nothing and is covered by nothing.
	for _, bad := range []api.Shape{shape(0, -2, -2), shape(0, 5, -1), shape(-1, -1, -2), shape(0, -1, math.MinInt)} {
		wantCovers(t, any2, bad, false)
		wantCovers(t, bad, fives, false)
		wantCovers(t, bad, bad, false)
	}
}

// P5

func TestDistinct(t *testing.T) {
	wantDistinct(t, nil)
	wantDistinct(t, []api.Pattern{pat(-1), pat(0, c(-1))})
	wantDistinct(t, []api.Pattern{pat(0, x(1), x(0)), pat(-1), pat(0, x(0), x(0)), pat(0, x(5), x(6)), pat(1), pat(0, x(9), x(9)), pat(1)},
		any2, twice, shape(1))
	// Shapes that differ in the predicate, the number of places, or where the digits part are different.
	wantDistinct(t, []api.Pattern{pat(1, c(1)), pat(1, c(1), c(1)), pat(1, c(11)), pat(11, c(1)), pat(11), pat(1), pat(1, c(1), c(11)), pat(1, c(11), c(1)), pat(11, c(11))},
		shape(1, 1), shape(1, 1, 1), shape(1, 11), shape(11, 1), shape(11), shape(1), shape(1, 1, 11), shape(1, 11, 1), shape(11, 11))
}

func TestDistinctOfMany(t *testing.T) {
	var ps []api.Pattern
	var want []api.Shape
	for n := range 20000 {
		ps = append(ps, pat(n%128, c(n), x(n)))
		want = append(want, shape(n%128, n, -2))
	}
	for n := range 20000 {
		ps = append(ps, pat(n%128, c(n), x(-n)))
	}
	wantDistinct(t, ps, want...)
}

// DOC.md's P2

// roomy is a list with spare room behind it that is filled.
func roomy[T any](list []T, spare T) []T {
	return append(slices.Clone(list), spare, spare, spare)[:len(list)]
}

// whole is a list with all its spare room.
func whole[T any](list []T) []T { return list[:cap(list)] }

func TestShapesLeaveWhatIsHandedIn(t *testing.T) {
	slots := roomy([]api.Slot{x(4), c(7), x(4), x(2)}, c(9))
	p := api.Pattern{Pred: 3, Args: slots}
	ps := roomy([]api.Pattern{p, pat(0, x(1)), p}, pat(9))
	s := api.Shape{Pred: 3, Cells: roomy([]int{-1, 7, -1, -4}, 9)}
	args := roomy([]int{3, 7, 3, 7}, 9)
	was := []any{slices.Clone(whole(slots)), slices.Clone(whole(ps)), slices.Clone(whole(s.Cells)), slices.Clone(whole(args))}
	alpha.Shape(p)
	alpha.Distinct(ps)
	alpha.Valid(s)
	alpha.Fits(s, 3, args)
	alpha.Covers(s, s)
	if now := []any{whole(slots), whole(ps), whole(s.Cells), whole(args)}; !reflect.DeepEqual(now, was) {
		t.Errorf("what was handed in is %v, was %v", now, was)
	}
}

func TestShapesAreNewMemory(t *testing.T) {
	p := pat(0, c(1), x(0), x(0), c(2))
	want := shape(0, 1, -2, -2, 2)
	scribble(alpha.Shape(p).Cells)
	wantShape(t, p, want)
	ps := []api.Pattern{p, pat(1, x(0)), pat(2, x(0), x(0))}
	for spoilt := range 3 {
		got := alpha.Distinct(ps)
		scribble(got[spoilt].Cells)
		for num, s := range got {
			if num != spoilt && !same(s, alpha.Shape(ps[num])) {
				t.Errorf("Distinct's shape %d is %v behind what was written into shape %d", num, s, spoilt)
			}
		}
	}
	wantDistinct(t, ps, want, shape(1, -1), shape(2, -1, -1))
}

// scribble writes over all of a list, its spare room too.
func scribble(list []int) {
	for place := range whole(list) {
		whole(list)[place] = 77
	}
}
