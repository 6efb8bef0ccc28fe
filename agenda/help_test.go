package agenda_test

import (
	"fmt"
	"math"
	"slices"
	"testing"

	"edict/agenda"
	"edict/api"
)

// As in the chapter's examples: b is id 0, a is id 1, 9 is id 2; the rules 0 and 2 are of stratum 1, rule 1 of stratum 0.
func consts() []api.Const {
	return []api.Const{{Kind: api.KName, Text: "b"}, {Kind: api.KName, Text: "a"}, {Kind: api.KInt, Int: 9}}
}

func fresh() *agenda.Agenda { return agenda.New([]int{1, 0, 1}, consts()) }

// ints is so many constants, the greatest first: so their order is that of the ids turned round.
func ints(count int) []api.Const {
	cs := make([]api.Const, count)
	for id := range cs {
		cs[id] = api.Const{Kind: api.KInt, Int: int64(-id)}
	}
	return cs
}

func act(rule int, ids ...int) api.Act { return api.Act{Rule: rule, Subst: ids} }

func came(rule int, ids ...int) api.Change { return api.Change{Came: true, Act: act(rule, ids...)} }

func went(rule int, ids ...int) api.Change { return api.Change{Act: act(rule, ids...)} }

func sameAct(a, b api.Act) bool { return a.Rule == b.Rule && slices.Equal(a.Subst, b.Subst) }

// picks is some for a list of so many: all of its places from both ends, if it is short, and the ends of int.
func picks(count int) []int {
	all := []int{math.MinInt, math.MinInt + 1, math.MaxInt - 1, math.MaxInt}
	span := min(count, 8)
	for pick := -2*span - 1; pick <= 2*span+1; pick++ {
		all = append(all, pick)
	}
	return append(all, count/2, count-1, count, count+1, -count, -count-1)
}

func wantApply(t *testing.T, a *agenda.Agenda, want int, code api.Errno, changes ...api.Change) {
	t.Helper()
	if got, e := a.Apply(changes...); got != want || e != code {
		t.Errorf("Apply(%v) = %d, %d, want %d, %d", changes, got, e, want, code)
	}
}

func wantFire(t *testing.T, a *agenda.Agenda, want api.Errno, x api.Act) {
	t.Helper()
	was := seen(a)
	if got := a.Fire(x); got != want {
		t.Errorf("Fire(%v) = %d, want %d", x, got, want)
	}
	if now := seen(a); want != api.OK && now != was {
		t.Errorf("behind a refused Fire(%v): %s, want %s", x, now, was)
	}
}

// wantPick holds that a pick means an act.
func wantPick(t *testing.T, a *agenda.Agenda, pick int, want api.Act) {
	t.Helper()
	if got, e := a.Pick(pick); e != api.OK || !sameAct(got, want) {
		t.Errorf("Pick(%d) = %v, %d, want %v, OK", pick, got, e, want)
	}
}

// wantNothing holds that nothing is eligible.
func wantNothing(t *testing.T, a *agenda.Agenda) {
	t.Helper()
	wantEligible(t, a, -1)
	for _, pick := range picks(0) {
		if got, e := a.Pick(pick); e != api.ErrNone || got.Rule != 0 || len(got.Subst) > 0 {
			t.Errorf("Pick(%d) = %v, %d, want the zero Act, ErrNone", pick, got, e)
		}
	}
}

// wantEligible holds what is eligible, by all calls that tell it.
func wantEligible(t *testing.T, a *agenda.Agenda, stratum int, want ...api.Act) {
	t.Helper()
	if got := a.Stratum(); got != stratum {
		t.Errorf("Stratum = %d, want %d", got, stratum)
	}
	if got := a.Eligible(); !slices.EqualFunc(got, want, sameAct) {
		t.Errorf("Eligible = %v, want %v", got, want)
	}
	if got := given(a, math.MaxInt); !slices.EqualFunc(got, want, sameAct) {
		t.Errorf("Each gives %v, want %v", got, want)
	}
	if len(want) == 0 {
		return
	}
	for _, pick := range picks(len(want)) {
		wantPick(t, a, pick, want[modulo(pick, len(want))])
	}
}

// modulo is what the chapter's P1 says, n being small and above 0.
func modulo(pick, n int) int { return (pick%n + n) % n }

// given is what Each gives to one who answers false at the number most.
func given(a *agenda.Agenda, most int) (acts []api.Act) {
	a.Each(func(x api.Act) bool {
		acts = append(acts, x)
		return len(acts) < most
	})
	return acts
}

func wantConflict(t *testing.T, a *agenda.Agenda, want ...api.Act) {
	t.Helper()
	if got := a.Conflict(); !slices.EqualFunc(got, want, sameAct) {
		t.Errorf("Conflict = %v, want %v", got, want)
	}
}

func wantFired(t *testing.T, a *agenda.Agenda, want ...api.Act) {
	t.Helper()
	if got := a.Fired(); !slices.EqualFunc(got, want, sameAct) {
		t.Errorf("Fired = %v, want %v", got, want)
	}
}

// seen is all that an agenda tells, as text.
func seen(a *agenda.Agenda) string {
	text := fmt.Sprint(a.Stratum(), a.Eligible(), given(a, math.MaxInt), a.Conflict(), a.Fired())
	for pick := range 3 {
		x, e := a.Pick(pick)
		text += fmt.Sprint(x, e)
	}
	return text
}
