package query_test

import (
	"fmt"
	"runtime"
	"slices"
	"testing"

	"edict/api"
	"edict/query"
)

var ok = api.Fault{}

func TestAny(t *testing.T) {
	e := rested(t, paths, nodes)
	end, clash := api.Fault{Code: api.ErrEnd, Off: 2}, api.Fault{Code: api.ErrClash}
	wantAny(t, e, nil, -1)
	wantAny(t, e, []string{}, -1)
	wantAny(t, e, []string{"lone(a)."}, -1, ok)
	wantAny(t, e, []string{"lone(a).", "lone(b)."}, -1, ok, ok)
	wantAny(t, e, []string{"p(", "path."}, -1, end, clash)
	wantAny(t, e, []string{"node(X).", "p(", "path."}, 0, ok, end, clash) // faults behind the answer too
	wantAny(t, e, []string{"p(", "node(X).", "node(X)."}, 1, end, ok, ok)
	wantAny(t, e, []string{"p(", "lone(a).", "not lone(a)."}, 2, end, ok, ok)
	wantAny(t, e, []string{"lone(d).", "lone(d).", "lone(d)."}, 0, ok, ok, ok)
	wantAny(t, e, []string{"p(X).", "p(X, Y).", "p."}, -1, ok, ok, ok) // each text is a query of its own
}

// long has no answer, and what must be gone through to see that is a little below the 2147483648 that the document promises.
const long = "p(X), p(Y), p(Z), Z < 0."

// A text that has an answer cancels those behind it, however long these would look.
func TestAnyCancels(t *testing.T) {
	e := rested(t, "", numbers("p", 1290))
	ahead := runtime.NumGoroutine()
	wantAny(t, e, []string{"p(-1).", "p(7).", long, "p(", long, "p(X)."}, 1, ok, ok, ok, api.Fault{Code: api.ErrEnd, Off: 2}, ok, ok)
	wantEnded(t, ahead)
}

// It never cancels those ahead of it: whichever is quicker, the least number is told.
func TestAnyUnderEverySchedule(t *testing.T) {
	e := rested(t, "", numbers("p", 200))
	slow := "p(X), p(Y), X = 199, Y = 199."
	texts, faults := []string{"p(X), X < 0.", slow}, []api.Fault{ok, ok}
	for n := range 60 {
		texts = append(texts, fmt.Sprintf("p(%d).", n))
		faults = append(faults, ok)
	}
	most := runtime.GOMAXPROCS(0)
	defer runtime.GOMAXPROCS(most)
	for _, procs := range []int{1, 2, most} {
		runtime.GOMAXPROCS(procs)
		ahead := runtime.NumGoroutine()
		for range 30 {
			wantAny(t, e, texts, 1, faults...)
			wantAny(t, e, texts[2:], 0, faults[2:]...)
		}
		wantEnded(t, ahead)
	}
}

// Texts that have answers at all numbers, and the faults of all of them.
func TestAnyOfMany(t *testing.T) {
	e := rested(t, paths, nodes)
	for first := range 40 {
		var texts []string
		var want []api.Fault
		for num := range 40 {
			switch {
			case num%5 == 3 && num != first:
				texts, want = append(texts, "node(X), path"), append(want, api.Fault{Code: api.ErrEnd, Off: 13})
			case num >= first:
				texts, want = append(texts, "node(X), path(X, _)."), append(want, ok)
			default:
				texts, want = append(texts, "node(X), path(X, X)."), append(want, ok)
			}
		}
		wantAny(t, e, texts, first, want...)
	}
}

// The texts that are handed in stay as they are, the spare room behind them too.
func TestAnyLeavesTheTexts(t *testing.T) {
	e := rested(t, paths, nodes)
	texts := append(make([]string, 0, 4), "lone(a).", "node(X).", "p(", "lone(X).")[:2]
	was := slices.Clone(texts[:cap(texts)])
	_, faults := query.Any(e, texts...)
	if !slices.Equal(texts[:cap(texts)], was) || len(faults) != 2 {
		t.Errorf("texts are %q, faults %v", texts[:cap(texts)], faults)
	}
}
