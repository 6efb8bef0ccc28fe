package match_test

import (
	"math"
	"reflect"
	"slices"
	"strconv"
	"testing"

	"edict/api"
	"edict/match"
	"edict/store"
)

// consts and world are those of the chapter's examples.
var consts = []api.Const{number(5), name("a"), number(2), text("a")}

func world(t *testing.T) *store.Store {
	t.Helper()
	return made(t, []int{2, 1}, row(0, 0, 1), row(0, 2, 1), row(0, 2, 2), row(1, 2))
}

func made(t *testing.T, arities []int, rows ...api.Row) *store.Store {
	t.Helper()
	s, e := store.New(arities)
	if e != api.OK {
		t.Fatalf("New(%v) = %d", arities, e)
	}
	if n, e := s.Add(rows...); n != len(rows) || e != api.OK {
		t.Fatalf("Add(%v) = %d, %d", rows, n, e)
	}
	return s
}

func pos(vars int, ps ...api.Pattern) api.Rule {
	return api.Rule{Pos: ps, Vars: make([]string, vars)}
}

func with(r api.Rule, tests []api.Test, neg ...api.Pattern) api.Rule {
	r.Tests, r.Neg = tests, neg
	return r
}

func test(op int, left api.Slot, right api.Slot) api.Test {
	return api.Test{Op: op, Left: left, Right: right}
}

func wantCompare(t *testing.T, op int, a, b api.Const, want bool, wantE api.Errno) {
	t.Helper()
	if got, e := match.Compare(op, a, b); got != want || e != wantE {
		t.Errorf("Compare(%d, %+v, %+v) = %v, %d, want %v, %d", op, a, b, got, e, want, wantE)
	}
}

// wantExtend: a want that is nil means false.
func wantExtend(t *testing.T, p api.Pattern, args []int, sub []int, want []int) {
	t.Helper()
	if got, ok := match.Extend(p, args, sub); ok != (want != nil) || !slices.Equal(got, want) {
		t.Errorf("Extend(%v, %v, %v) = %v, %v, want %v", p, args, sub, got, ok, want)
	}
}

func wantGround(t *testing.T, p api.Pattern, sub []int, want []int) {
	t.Helper()
	if got, ok := match.Ground(p, sub); ok != (want != nil) || !slices.Equal(got, want) {
		t.Errorf("Ground(%v, %v) = %v, %v, want %v", p, sub, got, ok, want)
	}
}

func wantHolds(t *testing.T, cs []api.Const, w api.Test, sub []int, want bool, wantE api.Errno) {
	t.Helper()
	if got, e := match.Holds(cs, w, sub); got != want || e != wantE {
		t.Errorf("Holds(%v, %v) = %v, %d, want %v, %d", w, sub, got, e, want, wantE)
	}
}

func wantPrefix(t *testing.T, s *store.Store, r api.Rule, k int, want ...[]int) {
	t.Helper()
	if got, e := match.Prefix(s, consts, r, k); e != api.OK || !sameLists(got, want) {
		t.Errorf("Prefix(%+v, %d) = %v, %d, want %v", r, k, got, e, want)
	}
}

func wantAll(t *testing.T, s *store.Store, r api.Rule, want ...[]int) {
	t.Helper()
	if got, e := match.All(s, consts, r); e != api.OK || !sameLists(got, want) {
		t.Errorf("All(%+v) = %v, %d, want %v", r, got, e, want)
	}
}

// wantError holds all three against it, and lets yield not be called.
func wantError(t *testing.T, what string, s *store.Store, cs []api.Const, r api.Rule, want api.Errno) {
	t.Helper()
	if got, e := match.Prefix(s, cs, r, 0); e != want || len(got) > 0 && e != api.OK {
		t.Errorf("%s: Prefix = %v, %d, want %d", what, got, e, want)
	}
	if got, e := match.All(s, cs, r); e != want || len(got) > 0 && e != api.OK {
		t.Errorf("%s: All = %d subs, %d, want %d", what, len(got), e, want)
	}
	calls := 0
	if e := match.Each(s, cs, r, func([]int) bool { calls++; return true }); e != want || calls > 0 && e != api.OK {
		t.Errorf("%s: Each = %d with %d calls, want %d", what, e, calls, want)
	}
	if e := match.Each(s, cs, r, nil); e != want {
		t.Errorf("%s: Each without yield = %d, want %d", what, e, want)
	}
}

// The examples

func TestExample1(t *testing.T) {
	wantCompare(t, api.OpLt, number(5), name("a"), true, api.OK)
	wantCompare(t, api.OpGe, text("a"), name("a"), true, api.OK)
	wantCompare(t, api.OpEq, name("a"), text("a"), false, api.OK)
	wantCompare(t, 7, number(5), number(5), false, api.ErrArg)
	wantCompare(t, api.OpEq, api.Const{}, number(5), false, api.ErrConst)
}

func TestExample2(t *testing.T) {
	wantExtend(t, pat(0, x(0), x(1)), []int{2, 1}, nil, []int{2, 1})
	wantExtend(t, pat(0, x(0), x(0)), []int{2, 1}, nil, nil)
	wantExtend(t, pat(0, x(0), x(0)), []int{2, 2}, nil, []int{2})
	wantExtend(t, pat(0, x(3)), []int{7}, []int{4, -5}, []int{4, -1, -1, 7})
	wantExtend(t, pat(0, c(1)), []int{1}, []int{9}, []int{9})
	wantExtend(t, pat(0, x(0)), []int{1}, []int{2}, nil)
}

func TestExample3(t *testing.T) {
	wantGround(t, pat(0, x(1), c(3)), []int{4, 6}, []int{6, 3})
	wantGround(t, pat(0, x(2)), []int{4, 6}, nil)
	wantGround(t, pat(0, x(0)), []int{-1}, nil)
}

func TestExample4(t *testing.T) {
	wantHolds(t, consts, test(api.OpLt, x(0), c(0)), []int{2}, true, api.OK)
	wantHolds(t, consts, test(api.OpLt, x(0), c(0)), []int{3}, false, api.OK)
	wantHolds(t, consts, test(api.OpEq, x(1), c(0)), []int{3}, false, api.ErrArg)
	wantHolds(t, consts, test(api.OpEq, c(9), c(9)), nil, false, api.ErrArg)
}

func TestExamples5To8(t *testing.T) {
	s := world(t)
	wantAll(t, s, pos(2, pat(0, x(0), x(1))), []int{2, 2}, []int{2, 1}, []int{0, 1})

	join := with(pos(3, pat(0, x(0), x(1)), pat(0, x(0), x(2))), []api.Test{test(api.OpLt, x(1), x(2))})
	wantPrefix(t, s, join, 0, []int{})
	wantPrefix(t, s, join, 1, []int{2, 2}, []int{2, 1}, []int{0, 1})
	wantPrefix(t, s, join, 2, []int{2, 2, 2}, []int{2, 2, 1}, []int{2, 1, 2}, []int{2, 1, 1}, []int{0, 1, 1})
	wantPrefix(t, s, join, 3, []int{2, 2, 1})
	wantAll(t, s, join, []int{2, 2, 1})

	wantAll(t, s, with(pos(2, pat(0, x(0), x(1))), nil, pat(1, x(0))), []int{0, 1})

	less := []api.Test{test(api.OpLt, c(2), c(0))}
	wantAll(t, s, with(pos(0), less, pat(1, c(0))), []int{})
	wantAll(t, s, with(pos(0), less, pat(1, c(2))))
}

func TestExample9(t *testing.T) {
	s := world(t)
	wantError(t, "x1 ahead of x0", s, consts, pos(2, pat(0, x(1), x(0))), api.ErrArg)
	wantError(t, "two Vars for one variable", s, consts, pos(2, pat(0, x(0), x(0))), api.ErrArg)
	wantError(t, "a negated x1", s, consts, with(pos(1, pat(1, x(0))), nil, pat(1, x(1))), api.ErrArg)
}

func TestExample10(t *testing.T) {
	var given [][]int
	e := match.Each(world(t), consts, pos(2, pat(0, x(0), x(1))), func(sub []int) bool {
		given = append(given, sub)
		return len(given) < 2
	})
	if e != api.OK || !sameLists(given, [][]int{{2, 2}, {2, 1}}) {
		t.Errorf("Each gives %v, %d", given, e)
	}
}

// P6.2

func TestExtendLimits(t *testing.T) {
	longest := slices.Repeat([]int{-1}, 16)
	longest[15] = 3
	wantExtend(t, pat(0, x(15)), []int{3}, nil, longest)
	for _, n := range []int{16, 17, 1 << 20, math.MaxInt, -1, math.MinInt} {
		wantExtend(t, pat(0, x(n)), []int{3}, nil, nil)
		wantExtend(t, pat(0, x(0), x(n)), []int{3, 3}, nil, nil)
		wantExtend(t, pat(0, x(n)), []int{3}, slices.Repeat([]int{3}, 20), nil)
	}
	for _, n := range []int{-1, math.MinInt} {
		wantExtend(t, pat(0, c(n)), []int{n}, nil, nil)
		wantExtend(t, pat(0, x(0)), []int{n}, nil, nil)
		wantExtend(t, pat(0, x(0)), []int{n}, []int{n}, nil)
		wantExtend(t, pat(n, c(4), x(0)), []int{4, 4}, []int{n}, []int{4})
	}
	// A constant's id has no limit.
	wantExtend(t, pat(0, c(16), c(math.MaxInt), x(0)), []int{16, math.MaxInt, math.MaxInt}, nil, []int{math.MaxInt})
	// A long sub stays as it is.
	long := slices.Repeat([]int{7, -9}, 500)
	wanted := slices.Repeat([]int{7, -1}, 500)
	wanted[1] = 8
	wantExtend(t, pat(0, x(1), x(0)), []int{8, 7}, long, wanted)
	wantExtend(t, pat(0), nil, long, slices.Repeat([]int{7, -1}, 500))
	wantExtend(t, pat(0), nil, nil, []int{})
	wantExtend(t, pat(0), []int{1}, nil, nil)
	// More slots than a predicate may have terms.
	many := slices.Repeat([]api.Slot{x(2)}, 40)
	wantExtend(t, pat(0, many...), slices.Repeat([]int{6}, 40), []int{5}, []int{5, -1, 6})
	wantExtend(t, pat(0, many...), append(slices.Repeat([]int{6}, 39), 5), []int{5}, nil)
	wantExtend(t, pat(0, many...), slices.Repeat([]int{6}, 39), []int{5}, nil)
}

// P6.3

func TestGroundLimits(t *testing.T) {
	long := slices.Repeat([]int{9}, 100)
	wantGround(t, pat(-1, x(99), c(math.MaxInt), x(16)), long, []int{9, math.MaxInt, 9})
	for _, slot := range []api.Slot{x(100), x(math.MaxInt), x(-1), x(math.MinInt), c(-1), c(math.MinInt)} {
		wantGround(t, pat(0, slot), long, nil)
		wantGround(t, pat(0, x(0), slot), long, nil)
		wantGround(t, pat(0, slot, c(0)), long, nil)
	}
	wantGround(t, pat(0, x(0)), []int{math.MinInt}, nil)
	wantGround(t, pat(0, x(0)), nil, nil)
	wantGround(t, pat(0), nil, []int{})
	wantGround(t, pat(0, slices.Repeat([]api.Slot{x(1)}, 30)...), []int{-1, 2}, slices.Repeat([]int{2}, 30))
}

// P6.4

func TestHoldsLimits(t *testing.T) {
	for _, n := range []int{math.MinInt, -1, 4, math.MaxInt} {
		for _, side := range []api.Slot{x(n), c(n)} {
			wantHolds(t, consts, test(api.OpEq, side, c(0)), []int{0, 0, 0, 0}, false, api.ErrArg)
			wantHolds(t, consts, test(api.OpEq, c(0), side), []int{0, 0, 0, 0}, false, api.ErrArg)
		}
		wantHolds(t, consts, test(api.OpEq, x(0), c(0)), []int{n}, false, api.ErrArg)
		wantHolds(t, consts, test(api.OpEq, c(0), x(0)), []int{n}, false, api.ErrArg)
	}
	for _, op := range []int{math.MinInt, -1, 0, 7, math.MaxInt} {
		wantHolds(t, consts, test(op, c(0), c(0)), nil, false, api.ErrArg)
		wantHolds(t, consts, test(op, c(0), c(4)), nil, false, api.ErrArg)
	}
	// What the test does not ask for may be no constant, twice there, or too much; a variable's number has no limit.
	odd := append([]api.Const{{}, number(1), number(1)}, make([]api.Const, api.MaxConsts)...)
	wantHolds(t, odd, test(api.OpEq, c(1), x(40)), slices.Repeat([]int{2}, 41), true, api.OK)
	wantHolds(t, odd, test(api.OpEq, c(1), c(0)), nil, false, api.ErrConst)
	wantHolds(t, odd, test(api.OpEq, c(api.MaxConsts+2), c(1)), nil, false, api.ErrConst)
	wantHolds(t, odd, test(api.OpEq, c(api.MaxConsts+3), c(0)), nil, false, api.ErrArg)
	wantHolds(t, odd, test(0, c(0), c(0)), nil, false, api.ErrArg)
}

// P6.5: what is fit

func TestChainLimit(t *testing.T) {
	s := made(t, []int{0, 0}, row(0))
	ps := slices.Repeat([]api.Pattern{pat(0)}, 17)
	ns := slices.Repeat([]api.Pattern{pat(1)}, 17)
	ts := slices.Repeat([]api.Test{test(api.OpEq, c(0), c(0))}, 17)
	for p := range 18 {
		for n := range 18 - p {
			r := with(pos(0, ps[:p]...), ts[:16-min(p+n, 16)], ns[:n]...)
			want := api.OK
			if p+n == 17 {
				want = api.ErrArg
			}
			wantError(t, "16 conditions or 17", s, consts, r, want)
			r.Tests = ts[:17-(p+n)]
			wantError(t, "17 conditions", s, consts, r, api.ErrArg)
		}
	}
	full := with(pos(0, ps[:5]...), ts[:5], ns[:6]...)
	for k := range 17 {
		wantPrefix(t, s, full, k, []int{})
	}
	for _, k := range []int{-1, 17, math.MaxInt, math.MinInt} {
		if got, e := match.Prefix(s, consts, full, k); e != api.ErrArg || len(got) > 0 {
			t.Errorf("Prefix for k %d = %v, %d", k, got, e)
		}
	}
	if got, e := match.Prefix(s, consts, api.Rule{}, 1); e != api.ErrArg || len(got) > 0 {
		t.Errorf("Prefix of no condition for k 1 = %v, %d", got, e)
	}
}

func TestVariablesLimit(t *testing.T) {
	var slots []api.Slot
	for n := range 17 {
		slots = append(slots, x(n))
	}
	eight := []int{3, 2, 1, 0, 0, 1, 2, 3}
	s := made(t, []int{8, 1}, row(0, eight...), row(1, 2))
	sixteen := pos(16, pat(0, slots[:8]...), pat(0, slots[8:16]...))
	wantAll(t, s, sixteen, slices.Concat(eight, eight))
	wantError(t, "17 variables", s, consts, pos(17, pat(0, slots[:8]...), pat(0, slots[8:16]...), pat(1, slots[16])), api.ErrArg)
	wantError(t, "17 names", s, consts, pos(17, sixteen.Pos...), api.ErrArg)
	wantError(t, "15 names", s, consts, pos(15, sixteen.Pos...), api.ErrArg)
}

func TestArityLimit(t *testing.T) {
	s := made(t, []int{8}, row(0, make([]int, 8)...))
	zeros := slices.Repeat([]api.Slot{c(0)}, 9)
	wantAll(t, s, pos(0, pat(0, zeros[:8]...)), []int{})
	wantAll(t, s, with(pos(0), nil, pat(0, zeros[:8]...)))
	wantAll(t, s, with(pos(0), nil, pat(0, zeros[:7]...)), []int{})
	wantError(t, "nine slots", s, consts, pos(0, pat(0, zeros...)), api.ErrArg)
	wantError(t, "nine negated slots", s, consts, with(pos(0), nil, pat(0, zeros...)), api.ErrArg)
	wantError(t, "nine slots behind a pattern", s, consts, pos(0, pat(0), pat(0, zeros...)), api.ErrArg)
}

func TestRulesThatAreNotFit(t *testing.T) {
	s := world(t)
	one := pos(1, pat(1, x(0)))
	for what, r := range map[string]api.Rule{
		"a predicate below 0":                     pos(0, pat(-1)),
		"a negated predicate below 0":             with(pos(0), nil, pat(-1)),
		"a second predicate far below 0":          pos(0, pat(0), pat(math.MinInt)),
		"a variable below 0":                      pos(1, pat(0, x(0), x(-1))),
		"a constant below 0":                      pos(1, pat(0, x(0), c(-1))),
		"a constant above":                        pos(1, pat(0, x(0), c(4))),
		"a constant far above":                    pos(1, pat(0, x(0), c(math.MaxInt))),
		"a negated constant above":                with(one, nil, pat(1, c(4))),
		"a negated constant below 0":              with(one, nil, pat(1, c(-1))),
		"a negated variable below 0":              with(one, nil, pat(1, x(-1))),
		"a negated variable without a body":       with(pos(0), nil, pat(1, x(0))),
		"a second negated variable above":         with(one, nil, pat(1, x(0)), pat(1, x(1))),
		"an op below":                             with(one, []api.Test{test(0, c(0), c(0))}),
		"an op above":                             with(one, []api.Test{test(7, c(0), c(0))}),
		"a second op above":                       with(one, []api.Test{test(1, c(0), c(0)), test(7, c(0), c(0))}),
		"a left variable above":                   with(one, []api.Test{test(1, x(1), c(0))}),
		"a right variable above":                  with(one, []api.Test{test(1, c(0), x(1))}),
		"a left constant above":                   with(one, []api.Test{test(1, c(4), c(0))}),
		"a right constant above":                  with(one, []api.Test{test(1, c(0), c(4))}),
		"a left constant below 0":                 with(one, []api.Test{test(1, c(-1), c(0))}),
		"a right variable below 0":                with(one, []api.Test{test(1, c(0), x(-1))}),
		"a variable in a test alone":              with(pos(1), []api.Test{test(1, x(0), x(0))}),
		"a variable in a negation alone":          with(pos(1), nil, pat(1, x(0))),
		"a variable too few":                      pos(0, pat(1, x(0))),
		"a variable too many":                     pos(2, pat(1, x(0))),
		"a variable without a body":               pos(1),
		"numbers that begin with 1":               pos(1, pat(1, x(1))),
		"numbers with a gap":                      pos(3, pat(0, x(0), x(2)), pat(1, x(1))),
		"numbers the wrong way over two patterns": pos(2, pat(1, x(1)), pat(1, x(0))),
		"a variable far above":                    pos(1, pat(1, x(math.MaxInt))),
	} {
		wantError(t, what, s, consts, r, api.ErrArg)
		wantError(t, what+", no constants", nil, nil, r, api.ErrArg)
		wantError(t, what+", wrong constants", s, []api.Const{{}, {}, {}, {}}, r, api.ErrArg)
	}
	// Whatever the rule, no constant means that no constant's slot is fit.
	wantError(t, "a constant of none", nil, nil, pos(0, pat(0, c(0))), api.ErrArg)
	wantError(t, "a test of none", nil, nil, with(pos(0), []api.Test{test(1, c(0), c(0))}), api.ErrArg)
}

// The whole rule is asked, whatever k is.
func TestTheWholeRuleMustBeFit(t *testing.T) {
	r := with(pos(1, pat(1, x(0))), []api.Test{test(1, c(0), c(0))}, pat(1, x(0)), pat(1, x(1)))
	for k := -1; k <= 5; k++ {
		if got, e := match.Prefix(world(t), consts, r, k); e != api.ErrArg || len(got) > 0 {
			t.Errorf("Prefix for k %d = %v, %d", k, got, e)
		}
	}
}

func TestConstantsThatAreNotFit(t *testing.T) {
	s := world(t)
	r := pos(1, pat(1, x(0)))
	for _, no := range wrong {
		for place := range 5 {
			wantError(t, "no constant", s, slices.Insert(slices.Clone(consts), place, no), r, api.ErrConst)
		}
	}
	for place := range 5 {
		wantError(t, "a constant twice", s, slices.Insert(slices.Clone(consts), place, consts[2]), r, api.ErrConst)
	}
	// A list that is not fit is told ahead of a store that is not.
	wantError(t, "a constant twice", s, []api.Const{name("a"), name("a")}, r, api.ErrConst)
	wantError(t, "no constant", s, []api.Const{{}}, r, api.ErrConst)
	wantError(t, "too few", s, consts[:2], r, api.ErrArg)
	wantError(t, "none", s, nil, r, api.ErrArg)
}

func TestConstantsLimit(t *testing.T) {
	many := make([]api.Const, api.MaxConsts+1)
	for i := range many {
		many[i] = number(int64(-i))
	}
	s := made(t, []int{1}, row(0, 65535), row(0, 0), row(0, 65534))
	r := pos(1, pat(0, x(0)))
	got, e := match.All(s, many[:65536], r)
	if e != api.OK || !sameLists(got, [][]int{{65535}, {65534}, {0}}) {
		t.Errorf("All over 65536 constants = %v, %d", got, e)
	}
	wantError(t, "65537 constants", s, many, r, api.ErrConst)
	wantError(t, "65535 constants", s, many[:65535], r, api.ErrArg)
	// Whether a slot is fit hangs on the list's length, fit or not.
	wantError(t, "the last of 65537", s, many, pos(0, pat(0, c(65536))), api.ErrConst)
	wantError(t, "one behind 65537", s, many, pos(0, pat(0, c(65537))), api.ErrArg)
	wantError(t, "one behind 65536", s, many[:65536], pos(0, pat(0, c(65536))), api.ErrArg)
}

func TestStoresThatAreNotFit(t *testing.T) {
	r := pos(1, pat(1, x(0)))
	for _, far := range []int{4, 5, 1 << 40, math.MaxInt} {
		for _, bad := range []api.Row{row(0, far, 0), row(0, 0, far), row(1, far), row(2, 0, 1, 2, 3, 3, 2, 1, far)} {
			s := made(t, []int{2, 1, 8}, row(1, 0), bad, row(1, 1))
			wantError(t, "a row above", s, consts, r, api.ErrArg)
			wantError(t, "a row above, and no condition", s, consts, api.Rule{}, api.ErrArg)
			s.Undo(1)
			wantError(t, "the row taken out", s, consts, r, api.OK)
			wantAll(t, s, r, []int{0})
		}
	}
	// Rows without args are fit for no constants at all.
	s := made(t, []int{0}, row(0))
	if got, e := match.All(s, nil, pos(0, pat(0))); e != api.OK || !sameLists(got, [][]int{{}}) {
		t.Errorf("All of q over no constants = %v, %d", got, e)
	}
}

// P6.5: the edges

func TestNoPositiveAtoms(t *testing.T) {
	s := made(t, []int{0, 0}, row(1))
	wantAll(t, s, with(pos(0), nil, pat(0)), []int{})
	wantAll(t, s, with(pos(0), nil, pat(1)))
	wantAll(t, s, with(pos(0), nil, pat(0), pat(1)))
	wantAll(t, s, api.Rule{}, []int{})
	wantPrefix(t, s, api.Rule{}, 0, []int{})
	wantPrefix(t, s, with(pos(0), nil, pat(0), pat(1)), 1, []int{})
	s.Add(row(0))
	wantAll(t, s, with(pos(0), nil, pat(0)))
	s.Undo(1)
	wantAll(t, s, with(pos(0), nil, pat(0)), []int{})
}

func TestTheSamePatternTwice(t *testing.T) {
	s := world(t)
	p := pat(0, x(0), x(1))
	wantAll(t, s, pos(2, p, p), []int{2, 2}, []int{2, 1}, []int{0, 1})
	wantAll(t, s, pos(2, p, p, p, p, p, p, p, p, p, p, p, p, p, p, p, p), []int{2, 2}, []int{2, 1}, []int{0, 1})
	wantAll(t, s, pos(1, pat(0, x(0), x(0))), []int{2})
	wantAll(t, s, pos(2, p, pat(0, x(1), x(0))), []int{2, 2})
	wantAll(t, s, with(pos(2, p), nil, p))
}

func TestPredicatesThatTheStoreHasNot(t *testing.T) {
	s := made(t, []int{2, 1, 1, 0}, row(0, 0, 0), row(1, 0))
	one := pat(1, x(0))
	for _, p := range []api.Pattern{
		pat(4, x(0)), pat(4), pat(math.MaxInt, c(0)), pat(128, x(0), x(0)), // none of these
		pat(0, x(0)), pat(0, c(0)), pat(0), pat(0, x(0), x(0), x(0)), pat(1, c(0), c(0)), pat(3, x(0)), // with another arity
		pat(2, x(0)), pat(2, c(0)), pat(3), // without a row
	} {
		wantAll(t, s, pos(1, one, p))
		wantAll(t, s, pos(len(firsts([]api.Pattern{p, one})), p, one))
		wantAll(t, s, with(pos(1, one), nil, p), []int{0})
		wantAll(t, s, with(pos(1, one), nil, p, p, one))
	}
	// Zeros behind a row's args are not its args.
	wantAll(t, s, pos(3, pat(0, x(0), x(1), x(2))))
	wantAll(t, s, pos(2, pat(1, x(0), x(1))))
}

func TestEqualityIsThatOfIds(t *testing.T) {
	s := made(t, []int{1}, row(0, 1), row(0, 3), row(0, 0), row(0, 2))
	both := pos(2, pat(0, x(0)), pat(0, x(1)))
	wantAll(t, s, with(both, []api.Test{test(api.OpEq, x(0), x(1))}), []int{2, 2}, []int{0, 0}, []int{1, 1}, []int{3, 3})
	wantAll(t, s, with(both, []api.Test{test(api.OpNe, x(0), x(1)), test(api.OpEq, x(1), c(3))}), []int{2, 3}, []int{0, 3}, []int{1, 3})
	// 2, 5, a, "a" have the ids 2, 0, 1, 3.
	wantAll(t, s, with(both, []api.Test{test(api.OpLt, x(0), x(1))}), []int{2, 0}, []int{2, 1}, []int{2, 3}, []int{0, 1}, []int{0, 3}, []int{1, 3})
	wantAll(t, s, with(both, []api.Test{test(api.OpGt, x(0), x(1)), test(api.OpGe, x(1), c(0))}), []int{1, 0}, []int{3, 0}, []int{3, 1})
	wantAll(t, s, with(both, []api.Test{test(api.OpLe, x(1), x(0)), test(api.OpLe, x(0), c(0))}), []int{2, 2}, []int{0, 2}, []int{0, 0})
}

// Head, Clause and the names in Vars are not looked at.
func TestWhatIsNotLookedAt(t *testing.T) {
	s := world(t)
	r := pos(1, pat(1, x(0)))
	r.Head = api.Pattern{Pred: -9, Args: slices.Repeat([]api.Slot{x(-4), c(99)}, 10)}
	r.Clause = math.MinInt
	r.Vars = []string{"not a variable"}
	wantAll(t, s, r, []int{2})
	two := pos(2, pat(0, x(0), x(1)))
	two.Vars = []string{"X", "X"}
	wantAll(t, s, two, []int{2, 2}, []int{2, 1}, []int{0, 1})
}

func TestNilStore(t *testing.T) {
	wantAll(t, nil, pos(0, pat(0)))
	wantAll(t, nil, pos(1, pat(0, x(0))))
	wantAll(t, nil, pos(0, pat(0, c(0))))
	wantAll(t, nil, pos(2, pat(0, c(0), x(0)), pat(1, x(0), x(1))))
	wantAll(t, nil, with(pos(0), nil, pat(0)), []int{})
	wantAll(t, nil, with(pos(0), []api.Test{test(api.OpLt, c(2), c(0))}, pat(0), pat(1, c(0))), []int{})
	wantAll(t, nil, api.Rule{}, []int{})
	wantPrefix(t, nil, pos(1, pat(0, x(0))), 0, []int{})
	wantError(t, "a nil store and a constant twice", nil, []api.Const{consts[0], consts[0]}, api.Rule{}, api.ErrConst)
	if e := match.Each(nil, consts, pos(0, pat(0)), func([]int) bool { t.Error("a call"); return true }); e != api.OK {
		t.Errorf("Each over nil = %d", e)
	}
}

// A chain of rows in which each next one is found by what stands in it, wherever it stands beside what stands in all.
func TestLongWay(t *testing.T) {
	const many = 400
	cs := make([]api.Const, many)
	for i := range cs {
		cs[i] = name("n" + strconv.Itoa(9000-i)) // the names fall as the ids rise
	}
	for all := range 3 {
		s, _ := store.New([]int{3})
		for i := range many - 1 {
			s.Add(row(0, slices.Insert([]int{i, i + 1}, all, 0)...))
		}
		way := pos(16)
		for i := range 15 {
			way.Pos = append(way.Pos, pat(0, slices.Insert([]api.Slot{x(i), x(i + 1)}, all, c(0))...))
		}
		subs, e := match.All(s, cs, way)
		if e != api.OK || len(subs) != many-15 {
			t.Fatalf("%d ways, %d", len(subs), e)
		}
		for n, sub := range subs {
			for i, id := range sub {
				if id != many-16-n+i {
					t.Fatalf("way %d is %v", n, sub)
				}
			}
		}
		// If each step went through all rows, there were 400 times as many.
		if made := testing.AllocsPerRun(1, func() { match.All(s, cs, way) }); made > 200000 {
			t.Errorf("%v pieces of memory for %d ways", made, len(subs))
		}
	}
}

// P6.6

func TestEachSeesNothingOfWhatYieldDoes(t *testing.T) {
	s := world(t)
	cs := slices.Clone(consts)
	r := with(pos(2, pat(0, x(0), x(1)), pat(0, x(0), x(1))), nil, pat(1, x(1)))
	r.Neg[0].Pred = 7
	var given [][]int
	e := match.Each(s, cs, r, func(sub []int) bool {
		given = append(given, slices.Clone(sub))
		sub[0], sub[1] = 77, -1
		_ = append(sub[:0], make([]int, cap(sub))...)
		s.Undo(0)
		s.Add(row(0, 3, 3), row(1, 9))
		cs[0] = api.Const{}
		r.Pos[0] = pat(-1)
		r.Pos[1].Args[0] = c(99)
		r.Vars[0] = "Z"
		return true
	})
	if e != api.OK || !sameLists(given, [][]int{{2, 2}, {2, 1}, {0, 1}}) {
		t.Errorf("Each gives %v, %d", given, e)
	}
	if s.Len() != 2 || !s.Has(row(1, 9)) {
		t.Errorf("what yield did to the store is gone: %d rows", s.Len())
	}
}

func TestEachInsideEach(t *testing.T) {
	s := world(t)
	r := pos(2, pat(0, x(0), x(1)))
	var given [][]int
	match.Each(s, consts, r, func(outer []int) bool {
		match.Each(s, consts, r, func(inner []int) bool {
			given = append(given, slices.Concat(outer, inner))
			inner[0] = 50
			return inner[1] != 1
		})
		return len(given) < 4
	})
	if !sameLists(given, [][]int{{2, 2, 2, 2}, {2, 2, 2, 1}, {2, 1, 2, 2}, {2, 1, 2, 1}}) {
		t.Errorf("given: %v", given)
	}
}

func TestEachEndsAtFalse(t *testing.T) {
	s := world(t)
	for n := 1; n <= 4; n++ {
		calls := 0
		e := match.Each(s, consts, pos(2, pat(0, x(0), x(1))), func([]int) bool { calls++; return calls < n })
		if e != api.OK || calls != min(n, 3) {
			t.Errorf("Each ends behind %d calls, %d, want %d", calls, e, min(n, 3))
		}
	}
	calls := 0
	if e := match.Each(s, consts, api.Rule{}, func(sub []int) bool { calls++; return len(sub) == 0 }); e != api.OK || calls != 1 {
		t.Errorf("Each over the empty chain: %d calls, %d", calls, e)
	}
}

func TestYieldsPanicGoesThrough(t *testing.T) {
	s := world(t)
	r := pos(2, pat(0, x(0), x(1)))
	for at := 1; at <= 3; at++ {
		calls := 0
		cause := new(int)
		func() {
			defer func() {
				if got := recover(); got != any(cause) {
					t.Errorf("the panic at call %d comes out as %v", at, got)
				}
			}()
			match.Each(s, consts, r, func([]int) bool {
				calls++
				if calls == at {
					panic(cause)
				}
				return true
			})
			t.Errorf("the panic at call %d ended inside", at)
		}()
		if calls != at {
			t.Errorf("%d calls, want %d", calls, at)
		}
		wantAll(t, s, r, []int{2, 2}, []int{2, 1}, []int{0, 1})
	}
}

// P6.7, P2

// roomy is a list with spare room behind it, and all of its memory.
func roomy[T any](fill T, list ...T) (front []T, all []T) {
	all = append(slices.Clone(list), fill, fill, fill)
	return all[:len(list)], all
}

func TestArgumentsStayAsTheyAre(t *testing.T) {
	slots, allSlots := roomy(c(77), x(0), x(2), c(5))
	args, allArgs := roomy(66, 4, 6, 5)
	sub, allSub := roomy(55, -3, 9)
	before := [][]int{slices.Clone(allArgs), slices.Clone(allSub)}
	beforeSlots := slices.Clone(allSlots)
	longer, ok := match.Extend(pat(0, slots...), args, sub)
	if !ok || !slices.Equal(longer, []int{4, 9, 6}) {
		t.Fatalf("Extend = %v, %v", longer, ok)
	}
	scribble(longer)
	ground, ok := match.Ground(pat(0, slots...), []int{1, 2, 3})
	if !ok || !slices.Equal(ground, []int{1, 3, 5}) {
		t.Fatalf("Ground = %v, %v", ground, ok)
	}
	scribble(ground)
	same, ok := match.Extend(pat(0), nil, sub[1:])
	if !ok || !slices.Equal(same, []int{9}) {
		t.Fatalf("Extend of nothing = %v, %v", same, ok)
	}
	scribble(same)
	match.Extend(pat(0, slots...), []int{4, 6, 0}, sub)
	match.Holds(consts, test(1, x(1), x(0)), sub)
	if !sameLists(before, [][]int{allArgs, allSub}) || !slices.Equal(beforeSlots, allSlots) {
		t.Errorf("changed: %v %v %v", allArgs, allSub, allSlots)
	}
}

// scribble writes into a list, its spare room too.
func scribble(list []int) {
	for i := range cap(list) {
		list[:cap(list)][i] = -99
	}
}

func TestRuleConstantsAndStoreStayAsTheyAre(t *testing.T) {
	build := func() (api.Rule, []api.Const, []any) {
		cs, allCs := roomy(name("z"), consts...)
		first, allFirst := roomy(c(99), x(0), x(1))
		ps, allPs := roomy(pat(9), pat(0, first...), pat(0, x(0), x(2)))
		ts, allTs := roomy(test(9, x(9), x(9)), test(api.OpLe, x(1), x(2)))
		ns, allNs := roomy(pat(8), pat(1, x(1)))
		vars, allVars := roomy("spare", "X", "Y", "Z")
		return api.Rule{Pos: ps, Tests: ts, Neg: ns, Vars: vars}, cs, []any{allCs, allFirst, allPs, allTs, allNs, allVars}
	}
	r, cs, memory := build()
	_, _, before := build()
	s := world(t)
	for k := -1; k <= 5; k++ {
		subs, _ := match.Prefix(s, cs, r, k)
		for _, sub := range subs {
			scribble(sub)
		}
	}
	match.Each(s, cs, r, func(sub []int) bool { scribble(sub); return true })
	if !reflect.DeepEqual(memory, before) {
		t.Errorf("changed: %v\nwas: %v", memory, before)
	}
	want := []api.Row{row(0, 0, 1), row(0, 2, 1), row(0, 2, 2), row(1, 2)}
	for num, w := range want {
		if got, _ := s.Row(num); got.Pred != w.Pred || !slices.Equal(got.Args, w.Args) || s.Len() != len(want) {
			t.Errorf("row %d is %v, want %v", num, got, w)
		}
	}
}

func TestAnswersShareNothing(t *testing.T) {
	s := world(t)
	r := with(pos(3, pat(0, x(0), x(1)), pat(0, x(0), x(2)), pat(0, x(0), x(1))), nil, pat(1, c(0)))
	for k := range 5 {
		want, _ := match.Prefix(s, consts, r, k)
		got, _ := match.Prefix(s, consts, r, k)
		for i := range got {
			kept := slices.Clone(got[i])
			for j := range got {
				if j != i {
					scribble(got[j])
				}
			}
			if !slices.Equal(got[i], kept) {
				t.Errorf("k %d: list %d shares memory: %v, was %v", k, i, got[i], kept)
			}
			got, _ = match.Prefix(s, consts, r, k)
			// Room behind a list is its own as well.
			filled := append(got[i], 41)
			for j := range got {
				if j != i {
					scribble(got[j])
				}
			}
			if filled[len(kept)] != 41 {
				t.Errorf("k %d: the room behind list %d is shared", k, i)
			}
			got, _ = match.Prefix(s, consts, r, k)
		}
		if !sameLists(got, want) {
			t.Errorf("k %d: %v, at first %v", k, got, want)
		}
	}
}
