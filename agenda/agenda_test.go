package agenda_test

import (
	"math"
	"slices"
	"testing"

	"edict/agenda"
	"edict/api"
)

// P1 (agenda)

func TestIndex(t *testing.T) {
	for _, c := range []struct{ pick, n, want int }{
		{7, 5, 2}, {-1, 5, 4}, {-5, 5, 0}, {3, 0, 0}, {3, -2, 0}, {math.MinInt, 3, 1}, // the chapter's
		{0, 5, 0}, {4, 5, 4}, {5, 5, 0}, {6, 5, 1}, {-4, 5, 1}, {-6, 5, 4}, {-10, 5, 0},
		{0, 1, 0}, {1, 1, 0}, {-1, 1, 0}, {math.MinInt, 1, 0}, {math.MaxInt, 1, 0},
		{0, 0, 0}, {-3, 0, 0}, {-3, -2, 0}, {0, -1, 0}, {math.MinInt, -1, 0}, {math.MaxInt, math.MinInt, 0}, {math.MinInt, math.MinInt, 0}, {math.MinInt, 0, 0},
		{math.MaxInt, 2, 1}, {math.MinInt, 2, 0}, {math.MinInt + 1, 2, 1}, {math.MaxInt, 10, 7}, {math.MinInt, 10, 2},
		{math.MaxInt, math.MaxInt, 0}, {math.MaxInt - 1, math.MaxInt, math.MaxInt - 1}, {-1, math.MaxInt, math.MaxInt - 1}, {math.MinInt, math.MaxInt, math.MaxInt - 1}, {math.MinInt + 1, math.MaxInt, 0}, {1, math.MaxInt, 1},
	} {
		if got := agenda.Index(c.pick, c.n); got != c.want {
			t.Errorf("Index(%d, %d) = %d, want %d", c.pick, c.n, got, c.want)
		}
	}
}

// From one pick to the next the number goes one up, and from n-1 to 0.
func TestIndexGoesRound(t *testing.T) {
	for n := 1; n < 9; n++ {
		want := 0
		for pick := -40 * n; pick < 40*n; pick++ {
			if got := agenda.Index(pick, n); got != want {
				t.Fatalf("Index(%d, %d) = %d, want %d", pick, n, got, want)
			}
			if want++; want == n {
				want = 0
			}
		}
	}
}

// The examples

func TestExample2(t *testing.T) {
	a := fresh()
	wantNothing(t, a)
	wantConflict(t, a)
	wantFired(t, a)
}

func TestExamples3To6(t *testing.T) {
	a := fresh()
	wantApply(t, a, 3, api.OK, came(0, 0), came(2, 2), came(0, 1))
	three := []api.Act{act(0, 1), act(0, 0), act(2, 2)}
	wantEligible(t, a, 1, three...)
	wantConflict(t, a, three...)
	wantPick(t, a, -1, act(2, 2))
	wantPick(t, a, 3, act(0, 1))

	wantApply(t, a, 1, api.OK, came(1))
	wantEligible(t, a, 0, act(1))
	wantFire(t, a, api.ErrState, act(0, 0))
	wantFire(t, a, api.OK, act(1))
	wantEligible(t, a, 1, three...)
	wantConflict(t, a, act(0, 1), act(0, 0), act(1), act(2, 2))
	wantFire(t, a, api.ErrTwice, act(1))
	wantFire(t, a, api.ErrNone, act(2, 0))
	wantFire(t, a, api.ErrArg, act(3))
	wantFire(t, a, api.ErrArg, act(0, 3))

	wantApply(t, a, 1, api.OK, went(1))
	wantFired(t, a, act(1))
	wantApply(t, a, 1, api.OK, came(1))
	wantEligible(t, a, 1, three...)
	wantApply(t, a, 0, api.ErrTwice, came(1))

	wantApply(t, a, 1, api.ErrNone, went(2, 2), went(2, 2), came(2, 1))
	wantEligible(t, a, 1, act(0, 1), act(0, 0))
	wantConflict(t, a, act(0, 1), act(0, 0), act(1))
	wantFired(t, a, act(1))
}

func TestExample7(t *testing.T) {
	a := fresh()
	wantApply(t, a, 4, api.OK, came(0, 0, 1), came(0, 1, 0), came(0, 0), came(0, 2))
	wantEligible(t, a, 1, act(0, 2), act(0, 1, 0), act(0, 0), act(0, 0, 1))
}

// P2 (agenda)

func TestStrataBelow0AreTakenAs0(t *testing.T) {
	a := agenda.New([]int{3, -1, 0, math.MinInt}, nil)
	wantApply(t, a, 4, api.OK, came(0), came(3), came(2), came(1))
	wantEligible(t, a, 0, act(1), act(2), act(3))
	for rule := 3; rule > 0; rule-- {
		wantFire(t, a, api.OK, act(rule))
	}
	wantEligible(t, a, 3, act(0))
}

func TestStrataMayBeAnyNumbers(t *testing.T) {
	a := agenda.New([]int{math.MaxInt, math.MaxInt - 1, 1 << 40, 7}, nil)
	wantApply(t, a, 1, api.OK, came(0))
	wantEligible(t, a, math.MaxInt, act(0))
	wantApply(t, a, 1, api.OK, came(1))
	wantEligible(t, a, math.MaxInt-1, act(1))
	wantFire(t, a, api.ErrState, act(0))
	wantApply(t, a, 1, api.OK, came(2))
	wantEligible(t, a, 1<<40, act(2))
	wantApply(t, a, 1, api.OK, came(3))
	wantEligible(t, a, 7, act(3))
	for rule := 3; rule >= 0; rule-- {
		wantFire(t, a, api.OK, act(rule))
	}
	wantNothing(t, a)
}

func TestOneOfItsActs(t *testing.T) {
	none := []api.Act{act(-1), act(3), act(math.MinInt), act(math.MaxInt), act(1 << 32), act(1<<32 + 1), act(0, 3), act(0, -1), act(0, 1, 3), act(0, 3, 1), act(0, -1, 0), act(0, 0, math.MinInt), act(0, math.MaxInt), act(0, 1<<32), act(-1, 0), act(3, 0)}
	for _, x := range none {
		a := fresh()
		wantApply(t, a, 2, api.OK, came(0, 0), came(1))
		wantApply(t, a, 0, api.ErrArg, api.Change{Came: true, Act: x})
		wantApply(t, a, 0, api.ErrArg, api.Change{Act: x})
		wantFire(t, a, api.ErrArg, x)
		wantConflict(t, a, act(0, 0), act(1))
		wantFired(t, a)
	}
}

func TestAgendasWithoutRulesOrConstants(t *testing.T) {
	for _, a := range []*agenda.Agenda{agenda.New(nil, nil), agenda.New([]int{}, consts())} {
		wantApply(t, a, 0, api.ErrArg, came(0))
		wantFire(t, a, api.ErrArg, act(0))
		wantNothing(t, a)
	}
	a := agenda.New([]int{0}, nil)
	wantApply(t, a, 1, api.ErrArg, came(0), came(0, 0))
	wantEligible(t, a, 0, act(0))
	wantFire(t, a, api.OK, act(0))
	wantNothing(t, a)
}

// How long Subst is, is not looked at.
func TestSubstitutionsOfAllLengths(t *testing.T) {
	a := agenda.New([]int{0}, ints(2))
	long := make([]int, 5000)
	longer := append(slices.Clone(long), 1)
	wantApply(t, a, 5, api.OK, came(0, longer...), came(0, long...), came(0), came(0, 1), came(0, long[:4999]...))
	wantEligible(t, a, 0, act(0), act(0, 1), act(0, long[:4999]...), act(0, long...), act(0, longer...))
	wantApply(t, a, 0, api.ErrTwice, came(0, long...))
	wantFire(t, a, api.OK, act(0, long...))
	wantEligible(t, a, 0, act(0), act(0, 1), act(0, long[:4999]...), act(0, longer...))
}

// Lists of different lengths are different, nil and an empty list are not.
func TestSameActs(t *testing.T) {
	a := fresh()
	wantApply(t, a, 1, api.OK, api.Change{Came: true, Act: api.Act{Rule: 0, Subst: nil}})
	wantApply(t, a, 0, api.ErrTwice, api.Change{Came: true, Act: api.Act{Rule: 0, Subst: []int{}}})
	wantApply(t, a, 5, api.ErrTwice, came(0, 0), came(0, 0, 0), came(2), came(0, 0, 1), came(0, 1, 0), came(0, 0, 0))
	wantFire(t, a, api.OK, api.Act{Rule: 0, Subst: []int{}})
	wantFire(t, a, api.ErrTwice, api.Act{Rule: 0, Subst: nil})
	wantFire(t, a, api.OK, act(0, 0))
	wantEligible(t, a, 1, act(0, 1, 0), act(0, 0, 1), act(0, 0, 0), act(2))
	wantApply(t, a, 2, api.OK, went(0, 0, 0), api.Change{Act: api.Act{Rule: 0, Subst: []int{}}})
	wantConflict(t, a, act(0, 1, 0), act(0, 0), act(0, 0, 1), act(2))
}

// P3 (agenda)

func TestOrderIsThatOfConstants(t *testing.T) {
	// Of all kinds, those that are not valid too, some twice.
	cs := []api.Const{
		{Kind: api.KText, Text: "a"}, {Kind: api.KName, Text: "ab"}, {Kind: api.KInt, Int: 5}, {Kind: api.KName, Text: "a"}, {}, {Kind: api.KInt, Int: math.MinInt64},
		{Kind: api.KInt, Int: 5}, {Kind: api.KText, Text: "A"}, {Kind: api.KVar, Text: "X"}, {Kind: -1}, {Kind: api.KName, Text: "a"}, {Kind: api.KName, Int: 1}, {Kind: api.KText, Text: "a"}, {Kind: api.KName, Text: "a"},
	}
	a := agenda.New([]int{0, 0}, cs)
	for id := range cs {
		wantApply(t, a, 2, api.OK, came(1, id), came(0, 7, id))
	}
	var want []api.Act
	ids := []int{9, 4, 5, 2, 6, 3, 10, 13, 1, 11, 7, 0, 12, 8}
	for _, id := range ids {
		want = append(want, act(0, 7, id))
	}
	for _, id := range ids {
		want = append(want, act(1, id))
	}
	wantEligible(t, a, 0, want...)
	wantConflict(t, a, want...)
	for _, x := range want {
		wantFire(t, a, api.OK, x)
	}
	wantFired(t, a, want...)
}

// The first place at which the ids differ decides, though their constants are the same.
func TestSameConstantsAreOrderedByIds(t *testing.T) {
	a := agenda.New([]int{0}, []api.Const{{Kind: api.KInt, Int: 1}, {Kind: api.KInt, Int: 1}, {Kind: api.KInt}})
	wantApply(t, a, 5, api.OK, came(0, 1, 2), came(0, 0, 1), came(0, 1), came(0, 0, 2), came(0, 0))
	wantEligible(t, a, 0, act(0, 0), act(0, 0, 2), act(0, 0, 1), act(0, 1), act(0, 1, 2))
	wantFire(t, a, api.OK, act(0, 1))
	wantFire(t, a, api.OK, act(0, 0))
	wantFired(t, a, act(0, 0), act(0, 1))
}

// More rules, and more constants, than two bytes number.
func TestOrderOfGreatNumbers(t *testing.T) {
	const many = 1<<16 + 300
	a := agenda.New(make([]int, many), ints(many))
	ids := []int{many - 1, 1<<16 + 1, 1 << 16, 1<<16 - 1, 257, 256, 255, 128, 1, 0}
	var want []api.Act
	for _, rule := range []int{0, 1, 127, 128, 255, 256, 257, 1<<16 - 1, 1 << 16, 1<<16 + 1, many - 1} {
		for _, id := range ids {
			want = append(want, act(rule, id))
		}
	}
	for num := len(want) - 1; num >= 0; num-- {
		wantApply(t, a, 1, api.OK, api.Change{Came: true, Act: want[num]})
	}
	wantEligible(t, a, 0, want...)
	wantApply(t, a, 0, api.ErrArg, came(many))
	wantApply(t, a, 0, api.ErrArg, came(0, many))
}

// P4 (agenda)

func TestApplyStopsAtTheFirstThatMayNotBe(t *testing.T) {
	for _, c := range []struct {
		bad  api.Change
		code api.Errno
	}{
		{came(0, 3), api.ErrArg}, {went(0, 3), api.ErrArg}, {came(5), api.ErrArg}, {went(-1), api.ErrArg},
		{came(0, 0), api.ErrTwice}, {came(1), api.ErrTwice}, {came(2, 2), api.ErrTwice},
		{went(0), api.ErrNone}, {went(0, 0, 0), api.ErrNone}, {went(0, 1), api.ErrNone}, {went(1, 1), api.ErrNone},
	} {
		a := fresh()
		wantApply(t, a, 1, api.OK, came(1))
		wantFire(t, a, api.OK, act(1))
		wantApply(t, a, 2, c.code, came(0, 0), came(2, 2), c.bad, came(0, 2), went(0, 0))
		wantEligible(t, a, 1, act(0, 0), act(2, 2))
		wantConflict(t, a, act(0, 0), act(1), act(2, 2))
		wantFired(t, a, act(1))
		wantApply(t, a, 0, c.code, c.bad)
	}
}

func TestApplyOfNothing(t *testing.T) {
	a := fresh()
	wantApply(t, a, 0, api.OK)
	wantApply(t, a, 0, api.OK, []api.Change{}...)
	wantNothing(t, a)
}

func TestActsComeAndGo(t *testing.T) {
	a := fresh()
	for range 3 {
		wantApply(t, a, 4, api.OK, came(0, 0), came(1, 1), went(0, 0), came(0, 0))
		wantEligible(t, a, 0, act(1, 1))
		wantApply(t, a, 1, api.OK, went(1, 1))
		wantEligible(t, a, 1, act(0, 0))
		wantApply(t, a, 1, api.OK, went(0, 0))
		wantNothing(t, a)
		wantConflict(t, a)
		wantApply(t, a, 0, api.ErrNone, went(0, 0))
		wantFire(t, a, api.ErrNone, act(0, 0))
	}
}

func TestWhatHasFiredStaysSo(t *testing.T) {
	a := fresh()
	wantApply(t, a, 2, api.OK, came(0, 0), came(0, 1))
	wantFire(t, a, api.OK, act(0, 0))
	for range 2 {
		wantApply(t, a, 1, api.OK, went(0, 0))
		wantConflict(t, a, act(0, 1))
		wantFired(t, a, act(0, 0))
		wantEligible(t, a, 1, act(0, 1))
		wantFire(t, a, api.ErrTwice, act(0, 0))
		wantApply(t, a, 0, api.ErrNone, went(0, 0))
		wantApply(t, a, 1, api.OK, came(0, 0))
		wantConflict(t, a, act(0, 1), act(0, 0))
		wantFired(t, a, act(0, 0))
		wantEligible(t, a, 1, act(0, 1))
		wantFire(t, a, api.ErrTwice, act(0, 0))
		wantApply(t, a, 0, api.ErrTwice, came(0, 0))
	}
	wantFire(t, a, api.OK, act(0, 1))
	wantNothing(t, a)
	wantConflict(t, a, act(0, 1), act(0, 0))
	wantApply(t, a, 2, api.OK, went(0, 1), went(0, 0))
	wantConflict(t, a)
	wantFired(t, a, act(0, 1), act(0, 0))
}

// P5 (agenda)

// A stratum that has nothing left but what has fired is passed by; it is the lowest again when something comes.
func TestLowestStratum(t *testing.T) {
	a := agenda.New([]int{5, 2, 9, 2}, consts())
	wantApply(t, a, 5, api.OK, came(0), came(2, 1), came(3, 2), came(1, 0), came(2))
	wantEligible(t, a, 2, act(1, 0), act(3, 2))
	wantFire(t, a, api.OK, act(3, 2))
	wantEligible(t, a, 2, act(1, 0))
	wantApply(t, a, 1, api.OK, went(1, 0))
	wantEligible(t, a, 5, act(0))
	wantFire(t, a, api.OK, act(0))
	wantEligible(t, a, 9, act(2), act(2, 1))
	wantApply(t, a, 1, api.OK, came(0, 0))
	wantEligible(t, a, 5, act(0, 0))
	wantApply(t, a, 1, api.OK, came(1, 0))
	wantEligible(t, a, 2, act(1, 0))
	wantApply(t, a, 2, api.OK, went(3, 2), came(3, 2))
	wantEligible(t, a, 2, act(1, 0))
	wantConflict(t, a, act(0), act(0, 0), act(1, 0), act(2), act(2, 1), act(3, 2))
	wantFired(t, a, act(0), act(3, 2))
}

func TestEachEndsWhereYieldSaysSo(t *testing.T) {
	a := agenda.New([]int{0}, ints(6))
	for id := range 5 {
		wantApply(t, a, 1, api.OK, came(0, id))
	}
	for most := 1; most <= 6; most++ {
		want := a.Eligible()[:min(most, 5)]
		if got := given(a, most); !slices.EqualFunc(got, want, sameAct) {
			t.Errorf("Each gives %v till %d are there, want %v", got, most, want)
		}
	}
	was := seen(a)
	a.Each(nil)
	if now := seen(a); now != was {
		t.Errorf("behind Each(nil): %s, want %s", now, was)
	}
	fresh().Each(func(x api.Act) bool {
		t.Errorf("Each gives %v where nothing is eligible", x)
		return true
	})
}

func TestYieldMayAsk(t *testing.T) {
	a := fresh()
	wantApply(t, a, 4, api.OK, came(0, 0), came(0, 1), came(2), came(2, 0))
	wantFire(t, a, api.OK, act(2, 0))
	calls := 0
	was := seen(a)
	a.Each(func(x api.Act) bool {
		wantPick(t, a, calls, x)
		if now := seen(a); now != was {
			t.Errorf("inside yield: %s, want %s", now, was)
		}
		calls++
		return true
	})
	if calls != 3 {
		t.Errorf("Each gives %d acts, want 3", calls)
	}
}

// What comes of it is not told, but the call ends, without a panic.
func TestYieldThatChangesTheAgenda(t *testing.T) {
	a := agenda.New([]int{1, 0}, ints(50))
	for id := range 40 {
		wantApply(t, a, 1, api.OK, came(0, id))
	}
	calls := 0
	a.Each(func(x api.Act) bool {
		calls++
		a.Fire(x)
		a.Apply(came(1, calls%50), went(0, calls%40), came(0, 40+calls%10))
		return calls < 1000
	})
	if calls == 1000 {
		t.Error("Each goes on with what comes meanwhile")
	}
}

// sentinel is a panic that no package makes.
type sentinel struct{}

func TestPanicOfYieldGoesThrough(t *testing.T) {
	a := fresh()
	wantApply(t, a, 3, api.OK, came(0, 0), came(0, 1), came(2))
	was := seen(a)
	calls := 0
	func() {
		defer func() {
			if got := recover(); got != any(sentinel{}) {
				t.Errorf("recovered %v, want the panic of yield", got)
			}
		}()
		a.Each(func(api.Act) bool {
			if calls++; calls == 2 {
				panic(sentinel{})
			}
			return true
		})
	}()
	if now := seen(a); calls != 2 || now != was {
		t.Errorf("behind a panic at call %d: %s, want %s", calls, now, was)
	}
	wantFire(t, a, api.OK, act(0, 0))
	wantEligible(t, a, 1, act(0, 1), act(2))
}

// P6 (agenda)

func TestPickChangesNothing(t *testing.T) {
	a := fresh()
	wantApply(t, a, 3, api.OK, came(0, 0), came(2, 2), came(0, 1))
	was := seen(a)
	for _, pick := range picks(3) {
		a.Pick(pick)
	}
	if now := seen(a); now != was {
		t.Errorf("behind picks: %s, want %s", now, was)
	}
}

// Many acts wait: each place of them is what a pick means, while they fire one by one.
func TestPicksOfManyActs(t *testing.T) {
	const many = 6000
	for _, step := range []int{0, -1, 1, 977, -4001} {
		a := agenda.New([]int{3}, ints(many))
		var left []api.Act
		for num := range many {
			wantApply(t, a, 1, api.OK, came(0, num*1847%many)) // all of them, here and there
			left = append(left, act(0, many-1-num))
		}
		for fired := 0; len(left) > 0; fired++ {
			place := modulo(fired*step, len(left))
			x, e := a.Pick(fired * step)
			if e != api.OK || !sameAct(x, left[place]) {
				t.Fatalf("Pick(%d) with %d left = %v, %d, want %v, OK", fired*step, len(left), x, e, left[place])
			}
			if code := a.Fire(x); code != api.OK {
				t.Fatalf("Fire(%v) = %d", x, code)
			}
			left = slices.Delete(left, place, place+1)
		}
		wantNothing(t, a)
		if conflict, fired := len(a.Conflict()), len(a.Fired()); conflict != many || fired != many {
			t.Errorf("%d acts in the conflict set, %d fired, want %d", conflict, fired, many)
		}
	}
}

// P7 (agenda)

// Where several reasons apply, the first is told.
func TestFireTellsTheFirstReason(t *testing.T) {
	a := agenda.New([]int{1, 0}, consts())
	wantApply(t, a, 2, api.OK, came(0, 0), came(0, 1))
	wantFire(t, a, api.OK, act(0, 0))
	wantFire(t, a, api.OK, act(0, 1))
	wantApply(t, a, 3, api.OK, went(0, 1), came(1), came(0, 2))
	wantFire(t, a, api.ErrArg, act(0, 0, 3))
	wantFire(t, a, api.ErrArg, act(2, 0))
	wantFire(t, a, api.ErrTwice, act(0, 0)) // in the conflict set, and above Stratum
	wantFire(t, a, api.ErrTwice, act(0, 1)) // neither
	wantFire(t, a, api.ErrNone, act(0))     // above Stratum
	wantFire(t, a, api.ErrNone, act(1, 0))
	wantFire(t, a, api.ErrState, act(0, 2))
	wantFire(t, a, api.OK, act(1))
	wantFire(t, a, api.OK, act(0, 2))
	wantNothing(t, a)
}

func TestFiredActStaysInTheConflictSet(t *testing.T) {
	a := fresh()
	wantApply(t, a, 2, api.OK, came(0, 0), came(0, 1))
	wantFire(t, a, api.OK, act(0, 0))
	wantConflict(t, a, act(0, 1), act(0, 0))
	wantFired(t, a, act(0, 0))
	wantEligible(t, a, 1, act(0, 1))
	wantApply(t, a, 0, api.ErrTwice, came(0, 0))
}

// Any eligible act may fire, not the first alone.
func TestFireAnyThatIsEligible(t *testing.T) {
	for place := range 3 {
		a := fresh()
		wantApply(t, a, 3, api.OK, came(0, 0), came(2, 2), came(0, 1))
		left := a.Eligible()
		wantFire(t, a, api.OK, left[place])
		wantFired(t, a, left[place])
		wantEligible(t, a, 1, slices.Delete(left, place, place+1)...)
	}
}

// P8 (agenda), and P1, P5 of DOC.md

func TestNilAgenda(t *testing.T) {
	var a *agenda.Agenda
	wantApply(t, a, 0, api.OK)
	wantApply(t, a, 0, api.OK, came(0), went(-1, -1))
	if got, e := a.Pick(3); got.Rule != 0 || len(got.Subst) > 0 || e != api.OK {
		t.Errorf("Pick of a nil agenda = %v, %d", got, e)
	}
	if a.Stratum() != 0 || len(a.Eligible()) > 0 || len(a.Conflict()) > 0 || len(a.Fired()) > 0 {
		t.Errorf("a nil agenda tells %s", seen(a))
	}
	if e := a.Fire(act(0)); e != api.OK {
		t.Errorf("Fire of a nil agenda = %d", e)
	}
	a.Each(nil)
	a.Each(func(x api.Act) bool {
		t.Errorf("Each of a nil agenda gives %v", x)
		return true
	})
}

// The order in which changes came and acts fired is not to be seen.
func TestOrderOfChangesIsNotSeen(t *testing.T) {
	first, second := fresh(), fresh()
	wantApply(t, first, 5, api.OK, came(0, 0), came(0, 1), came(1), came(2, 1, 0), came(1, 2))
	wantFire(t, first, api.OK, act(1))
	wantFire(t, first, api.OK, act(1, 2))
	wantFire(t, first, api.OK, act(2, 1, 0))
	wantApply(t, first, 1, api.OK, went(1, 2))

	wantApply(t, second, 1, api.OK, came(1, 2))
	wantFire(t, second, api.OK, act(1, 2))
	wantApply(t, second, 4, api.OK, went(1, 2), came(2, 1, 0), came(0, 1), came(1, 0))
	wantApply(t, second, 2, api.OK, went(1, 0), came(1))
	wantFire(t, second, api.OK, act(1))
	wantFire(t, second, api.OK, act(2, 1, 0))
	wantApply(t, second, 1, api.OK, came(0, 0))

	if one, two := seen(first), seen(second); one != two {
		t.Errorf("%s, but %s", one, two)
	}
}

func TestAgendasAreApart(t *testing.T) {
	levels, cs := []int{1, 0, 1}, consts()
	a, b := agenda.New(levels, cs), agenda.New(levels, cs)
	wantApply(t, a, 2, api.OK, came(0, 0), came(1))
	wantNothing(t, b)
	wantApply(t, b, 1, api.OK, came(1))
	wantFire(t, a, api.OK, act(1))
	wantEligible(t, b, 0, act(1))
	wantFired(t, b)
	wantApply(t, b, 1, api.OK, went(1))
	wantConflict(t, a, act(0, 0), act(1))
	wantEligible(t, a, 1, act(0, 0))
}

// Several may ask one agenda at once, while nobody changes it.
func TestAskingAtOnce(t *testing.T) {
	a := agenda.New([]int{0, 1}, ints(30))
	for id := range 30 {
		wantApply(t, a, 2, api.OK, came(0, id), came(1, id))
	}
	wantFire(t, a, api.OK, act(0, 4))
	want := seen(a)
	told := make(chan string)
	for range 8 {
		go func() { told <- seen(a) }()
	}
	for range 8 {
		if got := <-told; got != want {
			t.Errorf("asked at once: %s, want %s", got, want)
		}
	}
}
