package agenda_test

import (
	"fmt"
	"math"
	"slices"
	"testing"

	"edict/agenda"
	"edict/api"
)

// DOC.md's P2

// roomy is a list with spare room behind it that is filled.
func roomy[T any](list []T, spare T) []T {
	return append(slices.Clone(list), spare, spare, spare)[:len(list)]
}

// whole is a list with all its spare room.
func whole[T any](list []T) []T { return list[:cap(list)] }

// scribble writes over all of a list, its spare room too.
func scribble(list []int) {
	for place := range whole(list) {
		whole(list)[place] = 7
	}
}

func TestLevelsAndConstantsAreNeitherChangedNorKept(t *testing.T) {
	levels, cs := roomy([]int{1, -4, 1}, 9), roomy(consts(), api.Const{Kind: 9})
	wasLevels, wasConsts := slices.Clone(whole(levels)), slices.Clone(whole(cs))
	a, b := agenda.New(levels, cs), fresh()
	if !slices.Equal(whole(levels), wasLevels) || !slices.Equal(whole(cs), wasConsts) {
		t.Errorf("New has made %v, %v of %v, %v", whole(levels), whole(cs), wasLevels, wasConsts)
	}
	for _, x := range []*agenda.Agenda{a, b} {
		wantApply(t, x, 4, api.OK, came(0, 0), came(0, 1), came(0, 2), came(1))
	}
	scribble(levels)
	clear(whole(cs))
	for _, x := range []*agenda.Agenda{a, b} {
		wantEligible(t, x, 0, act(1))
		wantFire(t, x, api.OK, act(1))
		wantApply(t, x, 4, api.OK, came(2, 1), came(2, 2), came(2, 0), came(1, 0))
	}
	if got, want := seen(a), seen(b); got != want {
		t.Errorf("behind changes of what was handed in: %s, want %s", got, want)
	}
}

func TestChangesAndActsAreNeitherChangedNorKept(t *testing.T) {
	a := fresh()
	one, two, three := roomy([]int{0, 1}, 9), roomy([]int{1}, 9), roomy([]int{1}, 9)
	changes := roomy([]api.Change{{Came: true, Act: api.Act{Rule: 0, Subst: one}}, {Came: true, Act: api.Act{Rule: 2, Subst: two}}, came(0, 3)}, came(0, 2))
	was := fmt.Sprint(whole(one), whole(two), whole(three), whole(changes))
	wantApply(t, a, 2, api.ErrArg, changes...)
	wantFire(t, a, api.OK, api.Act{Rule: 2, Subst: three})
	if now := fmt.Sprint(whole(one), whole(two), whole(three), whole(changes)); now != was {
		t.Errorf("what was handed in is %s, was %s", now, was)
	}
	scribble(one)
	scribble(two)
	scribble(three)
	clear(whole(changes))
	wantEligible(t, a, 1, act(0, 0, 1))
	wantConflict(t, a, act(0, 0, 1), act(2, 1))
	wantFired(t, a, act(2, 1))
}

// full has acts that wait, in two strata, and acts that have fired.
func full(t *testing.T) *agenda.Agenda {
	t.Helper()
	a := fresh()
	wantApply(t, a, 6, api.OK, came(1, 0, 1), came(1, 2), came(0, 0), came(2), came(1, 1, 1), came(1, 0))
	wantFire(t, a, api.OK, act(1, 0))
	wantFire(t, a, api.OK, act(1, 2))
	return a
}

// lists is all lists in answers of an agenda, the same ones each time.
func lists(a *agenda.Agenda) (all [][]int) {
	for _, acts := range [][]api.Act{a.Eligible(), a.Eligible(), a.Conflict(), a.Fired(), given(a, math.MaxInt)} {
		for _, x := range acts {
			all = append(all, x.Subst)
		}
	}
	for pick := range 4 {
		x, _ := a.Pick(pick)
		all = append(all, x.Subst)
	}
	return all
}

func TestAnswersAreNewMemory(t *testing.T) {
	count := len(lists(full(t)))
	if count < 16 {
		t.Fatalf("only %d lists", count)
	}
	for spoilt := range count {
		a := full(t)
		was := seen(a)
		answer, want := lists(a), lists(a)
		scribble(answer[spoilt])
		for num := range answer {
			if num != spoilt && !slices.Equal(answer[num], want[num]) {
				t.Errorf("list %d is %v behind what was written into list %d, was %v", num, answer[num], spoilt, want[num])
			}
		}
		if now := seen(a); now != was {
			t.Errorf("the agenda tells %s behind what was written into list %d, was %s", now, spoilt, was)
		}
	}
}

// Lists of one answer lie apart, with their spare room.
func TestListsOfAnAnswerLieApart(t *testing.T) {
	a := full(t)
	for _, ask := range []func() []api.Act{a.Eligible, a.Conflict, a.Fired, func() []api.Act { return given(a, math.MaxInt) }} {
		got, want := ask(), ask()
		for num := range got {
			got[num].Subst = append(got[num].Subst, 7, 7, 7)
		}
		for num := range got {
			if !slices.Equal(got[num].Subst[:len(want[num].Subst)], want[num].Subst) {
				t.Errorf("act %d is %v behind appending, want %v", num, got[num], want[num])
			}
		}
		outer := ask()
		clear(whole(outer))
		if now := ask(); !slices.EqualFunc(now, want, sameAct) {
			t.Errorf("behind what was written into an answer: %v, want %v", now, want)
		}
	}
}

// What yield writes into an act is not seen by the next one, nor by the agenda.
func TestYieldMayWrite(t *testing.T) {
	a := full(t)
	was, want := seen(a), a.Eligible()
	num := 0
	a.Each(func(x api.Act) bool {
		if !sameAct(x, want[num]) {
			t.Errorf("Each gives %v, want %v", x, want[num])
		}
		scribble(x.Subst)
		num++
		return true
	})
	if now := seen(a); now != was {
		t.Errorf("behind a yield that writes: %s, want %s", now, was)
	}
}
