package query_test

import (
	"runtime"
	"slices"
	"strings"
	"testing"

	"edict/api"
	"edict/engine"
	"edict/query"
)

// The last answer given is the one at which yield answers false.
func TestEachStops(t *testing.T) {
	e := rested(t, paths, nodes)
	all := []string{"a b", "a c", "a d", "b a", "b c", "b d"}
	for stop := range len(all) + 2 {
		ahead := runtime.NumGoroutine()
		var got []string
		fault := query.Each(e, "node(X), node(Y), X != Y, X <= b.", func(a api.Answer) bool {
			got = append(got, rowText(a))
			return len(got) != stop+1
		})
		if want := all[:min(stop+1, len(all))]; fault != (api.Fault{}) || !slices.Equal(got, want) {
			t.Errorf("Each that stops at %d gives %q, %v, want %q", stop, got, fault, want)
		}
		wantEnded(t, ahead)
	}
	if fault := query.Each(e, "node(X).", nil); fault != (api.Fault{}) {
		t.Errorf("Each with a nil yield = %v", fault)
	}
}

// Example 9
func TestEachOnce(t *testing.T) {
	var got []string
	query.Each(rested(t, paths, nodes), "node(X), node(Y).", func(a api.Answer) bool {
		got = append(got, rowText(a))
		return false
	})
	if !slices.Equal(got, []string{"a a"}) {
		t.Errorf("Each gives %q", got)
	}
}

// What yield does with the engine, and with what it is given, is not seen in what comes later.
func TestEachOverTheMemoryAtTheCall(t *testing.T) {
	text := "path(X, Y), not lone(X)."
	for _, k := range []struct {
		what string
		do   func(e *engine.Engine)
	}{
		{"Reset", func(e *engine.Engine) { e.Reset() }},
		{"Run", func(e *engine.Engine) { e.Run(nil, 1, most) }},
		{"Run to the end", func(e *engine.Engine) { e.Run(nil, most, most) }},
		{"Fork", func(e *engine.Engine) { e.Fork().Reset() }},
		{"asking", func(e *engine.Engine) {
			query.Each(e, "node(X), node(Y), not new(X, 7).", func(api.Answer) bool { return true })
			query.Any(e, "node(X).", "p(", "edge(X, b).")
		}},
	} {
		e := load(t, paths, nodes)
		e.Run(nil, 3, most)
		twin := e.Fork()
		var got []string
		query.Each(e, text, func(a api.Answer) bool {
			got = append(got, rowText(a))
			k.do(e)
			spoilRow(a)
			return true
		})
		if want := each(t, twin, text); !slices.Equal(got, want) || len(want) != 3 {
			t.Errorf("Each with a yield that does %s gives %q, want %q", k.what, got, want)
		}
		for range 3 {
			k.do(twin)
		}
		wantSame(t, e, twin)
	}
}

func spoilRow(a api.Answer) {
	whole := a.Row[:cap(a.Row)]
	clear(whole)
	_ = append(a.Row, api.Const{})
}

// One Each inside the other, of the same engine.
func TestEachInEach(t *testing.T) {
	e := rested(t, paths, nodes)
	var got []string
	query.Each(e, "node(X), X < c.", func(a api.Answer) bool {
		query.Each(e, "node(Y), Y >= c.", func(b api.Answer) bool {
			got = append(got, rowText(a)+rowText(b))
			return rowText(a) == "b"
		})
		return true
	})
	if want := "ac bc bd"; strings.Join(got, " ") != want {
		t.Errorf("gives %q, want %q", got, want)
	}
}

// A panic of yield's goes through to the caller as it is, and nothing runs on behind it.
func TestYieldPanics(t *testing.T) {
	e := rested(t, paths, nodes)
	was := seen(e)
	type own struct{ n int }
	for at := range 4 {
		ahead := runtime.NumGoroutine()
		thrown, given := &own{at}, 0
		caught := func() (caught any) {
			defer func() { caught = recover() }()
			query.Each(e, "node(X).", func(api.Answer) bool {
				given++
				if given == at+1 {
					panic(thrown)
				}
				return true
			})
			return nil
		}()
		if caught != thrown || given != at+1 {
			t.Errorf("a panic at answer %d: %v is caught, %d were given", at, caught, given)
		}
		wantEnded(t, ahead)
	}
	if seen(e) != was {
		t.Error("the engine is another behind a panic of yield's")
	}
}

// A yield that ends its goroutine is a way to end a call too.
func TestYieldExits(t *testing.T) {
	e := rested(t, paths, nodes)
	ahead := runtime.NumGoroutine()
	exited := make(chan int)
	given := 0
	go func() {
		defer close(exited)
		query.Each(e, "node(X).", func(api.Answer) bool {
			given++
			runtime.Goexit()
			return true
		})
	}()
	<-exited
	if given != 1 {
		t.Errorf("%d were given", given)
	}
	wantEnded(t, ahead)
}

// Who wants but a few answers does not wait for all: of these there are 1290 to the third, a little below the 2147483648 that the document promises.
func TestFewOfMany(t *testing.T) {
	e := rested(t, "", numbers("p", 1290))
	ahead := runtime.NumGoroutine()
	text := "p(X), p(Y), p(Z)."
	wantAsk(t, e, text, 0, vars("X", "Y", "Z"), nil, true)
	wantAsk(t, e, text, 3, vars("X", "Y", "Z"), []string{"0 0 0", "0 0 1", "0 0 2"}, true)
	wantEnded(t, ahead)
	given := 0
	query.Each(e, text, func(api.Answer) bool { given++; return given < 5000 })
	if given != 5000 {
		t.Errorf("%d were given", given)
	}
	wantEnded(t, ahead)
	wantAny(t, e, []string{text}, 0, api.Fault{})
	// A condition is asked as soon as its variables are bound.
	if count, fault := query.Count(e, "p(X), p(Y), p(Z), X < 3, Y = X, Z > 1287, not p(X)."); count != 0 || fault != (api.Fault{}) {
		t.Errorf("Count = %d, %v", count, fault)
	}
	if count, fault := query.Count(e, "p(X), p(Y), p(Z), X < 3, Y = X, Z > 1287."); count != 6 || fault != (api.Fault{}) {
		t.Errorf("Count = %d, %v", count, fault)
	}
	wantEnded(t, ahead)
}

// Behind its first answer this one goes through all of these without another.
const oneAmongMany = "p(X), p(Y), p(Z), q(X, Y, Z)."

// Whoever looks for answers that nobody wants any more stops looking, also where there are none.
func TestNobodyLooksOn(t *testing.T) {
	e := rested(t, "", numbers("p", 1290)+"q(0, 0, 0).")
	defer runtime.GOMAXPROCS(runtime.GOMAXPROCS(0))
	for _, procs := range []int{1, 4} {
		runtime.GOMAXPROCS(procs)
		ahead := runtime.NumGoroutine()
		wantAsk(t, e, oneAmongMany, 0, vars("X", "Y", "Z"), nil, true)
		wantEnded(t, ahead)
		wantAny(t, e, []string{oneAmongMany, long}, 0, api.Fault{}, api.Fault{})
		wantEnded(t, ahead)
		query.Each(e, oneAmongMany, func(api.Answer) bool {
			if !looking() {
				t.Error("nobody looks for answers beside yield")
			}
			return false
		})
		wantEnded(t, ahead)
		func() {
			defer func() { recover() }()
			query.Each(e, oneAmongMany, func(api.Answer) bool { panic("enough") })
		}()
		wantEnded(t, ahead)
	}
}

// Many answers are counted without being kept.
func TestCountOfMany(t *testing.T) {
	e := rested(t, "", numbers("p", 500))
	if count, fault := query.Count(e, "p(X), p(Y)."); count != 250000 || fault != (api.Fault{}) {
		t.Errorf("Count = %d, %v", count, fault)
	}
}
