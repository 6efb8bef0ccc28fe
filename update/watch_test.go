package update_test

import (
	"errors"
	"strings"
	"testing"

	"edict/api"
	"edict/print"
	"edict/update"
)

// heard is what watchers were told, in their order.
type heard struct{ words []string }

// as is a watcher with a word of its own.
func (h *heard) as(word string) func(bool, api.Fact) {
	return func(came bool, f api.Fact) {
		way := "-"
		if came {
			way = "+"
		}
		h.words = append(h.words, word+way+print.Fact(f))
	}
}

// want looks whether the watchers were told just this since the last look.
func (h *heard) want(t *testing.T, want string) {
	t.Helper()
	if got := strings.Join(h.words, " "); got != want {
		t.Errorf("the watchers were told %s, want %s", got, want)
	}
	h.words = nil
}

func watch(t *testing.T, k *update.Keeper, pred string, f func(bool, api.Fact)) {
	t.Helper()
	if e := k.Watch(pred, f); e != api.OK {
		t.Errorf("Watch(%s) = %d", pred, e)
	}
}

func mustChange(t *testing.T, k *update.Keeper, drop string, add string) {
	t.Helper()
	if _, _, e := k.Change(facts(drop), facts(add)); e != api.OK {
		t.Errorf("Change(%s / %s) = %d", drop, add, e)
	}
}

func TestExample8(t *testing.T) {
	k, h := open(t, ways, ""), &heard{}
	watch(t, k, "node", h.as(""))
	mustChange(t, k, "edge(a, b).", "edge(c, d).")
	h.want(t, "-node(a) +node(d)")
}

// Each watcher is told all its facts, what went first, both sorted, and then the next one.
func TestWatchersInTheirOrder(t *testing.T) {
	k, h := open(t, ways, ""), &heard{}
	f := h.as("f")
	watch(t, k, "path", f)
	watch(t, k, "edge", h.as("g"))
	watch(t, k, "none", h.as("never"))
	watch(t, k, "path", h.as("h"))
	watch(t, k, "path", f)
	h.want(t, "")
	mustChange(t, k, "edge(a, b).", "edge(c, d). edge(a, d).")
	paths := []string{"-path(a, b)", "-path(a, c)", "+path(a, d)", "+path(b, d)", "+path(c, d)"}
	told := func(word string, list ...string) string { return word + strings.Join(list, " "+word) }
	h.want(t, strings.Join([]string{told("f", paths...), told("g", "-edge(a, b)", "+edge(a, d)", "+edge(c, d)"), told("h", paths...), told("f", paths...)}, " "))
}

// A predicate need not be known, and may get another arity.
func TestWatchOfUnknownPredicates(t *testing.T) {
	k, h := open(t, "", ""), &heard{}
	watch(t, k, "p", h.as(""))
	mustChange(t, k, "", "p(2). p(1). q(1). pp. p2.")
	h.want(t, "+p(1) +p(2)")
	mustChange(t, k, "p(1). p(2). q(1).", "p(1, 2). p(0, 3).")
	h.want(t, "-p(1) -p(2) +p(0, 3) +p(1, 2)")
	mustChange(t, k, "pp.", "q(1).")
	h.want(t, "")
}

// What a change leaves as it is nobody is told of; nor of what is refused.
func TestWatchersHearOfWhatTurns(t *testing.T) {
	k, h := open(t, ways, ""), &heard{}
	for _, pred := range []string{"edge", "path", "node", "apart"} {
		watch(t, k, pred, h.as(""))
	}
	mustChange(t, k, "", "")
	mustChange(t, k, "edge(a, b).", "edge(a, b).")
	mustChange(t, k, "", "path(a, b).")
	h.want(t, "")
	refused(t, k, facts("edge(a, b)."), facts("edge(b, c)."), api.ErrTwice)
	refused(t, k, facts("edge(b, b)."), facts("edge(b, d)."), api.ErrNone)
	refused(t, k, facts("edge(a, b)."), facts("edge(b)."), api.ErrClash)
	h.want(t, "")
	mustChange(t, k, "edge(a, b).", "")
	h.want(t, "-edge(a, b) -node(a) -apart(a, a) -apart(b, a) -apart(c, a)")
}

func TestWatchOfNothing(t *testing.T) {
	k, h := open(t, "", ""), &heard{}
	for _, pred := range []string{"", "P", "_", "not", "p q", "p(1)", "1", strings.Repeat("p", api.MaxName+1)} {
		if e := k.Watch(pred, h.as("")); e != api.ErrArg {
			t.Errorf("Watch(%q) = %d", pred, e)
		}
	}
	for _, pred := range []string{"p", "P"} {
		if e := k.Watch(pred, nil); e != api.ErrArg {
			t.Errorf("Watch(%q, nil) = %d", pred, e)
		}
	}
	mustChange(t, k, "", "p. q.")
	h.want(t, "")
	watch(t, k, strings.Repeat("p", api.MaxName), h.as(""))
}

// A watcher is called from its Watch on, and no copy's.
func TestWatchersFromNowOn(t *testing.T) {
	k, h := open(t, "", ""), &heard{}
	mustChange(t, k, "", "p(1).")
	watch(t, k, "p", h.as("f"))
	h.want(t, "")
	mustChange(t, k, "", "p(2).")
	h.want(t, "f+p(2)")
	c := k.Copy()
	watch(t, c, "p", h.as("c"))
	watch(t, k, "p", h.as("g"))
	mustChange(t, c, "p(1).", "")
	h.want(t, "c-p(1)")
	mustChange(t, k, "p(2).", "")
	h.want(t, "f-p(2) g-p(2)")
	mustChange(t, c.Copy(), "p(2).", "")
	h.want(t, "")
}

// A panic ends the one call alone.
func TestWatchersThatPanic(t *testing.T) {
	for _, value := range []any{"given up", nil, errors.New("given up"), 7} {
		k, h := open(t, ways, ""), &heard{}
		f, bad := h.as("f"), h.as("bad")
		watch(t, k, "path", func(came bool, x api.Fact) {
			bad(came, x)
			panic(value)
		})
		watch(t, k, "path", func(came bool, x api.Fact) {
			f(came, x)
			x.Args[9] = number(9)
		})
		watch(t, k, "edge", h.as("g"))
		change(t, k, "edge(b, c).", "edge(b, d).", "apart(d, a). apart(d, b). apart(d, d). edge(b, d). node(d). path(a, d). path(b, d).", "apart(c, a). apart(c, b). apart(c, c). edge(b, c). node(c). path(a, c). path(b, c).")
		h.want(t, "bad-path(a, c) bad-path(b, c) bad+path(a, d) bad+path(b, d) f-path(a, c) f-path(b, c) f+path(a, d) f+path(b, d) g-edge(b, c) g+edge(b, d)")
		mustChange(t, k, "edge(b, d).", "")
		h.want(t, "bad-path(a, d) bad-path(b, d) f-path(a, d) f-path(b, d) g-edge(b, d)")
	}
}

// When a watcher is called the change is done, and it may ask.
func TestWatchersAsk(t *testing.T) {
	k := open(t, ways, "")
	want, calls := "", 0
	ask := func(came bool, f api.Fact) {
		calls++
		if k.Has(f) != came || seen(k) != want || seen(k.Copy()) != want {
			t.Errorf("told of %v: %s, want %s", f, seen(k), want)
		}
		mustChange(t, k.Copy(), textOf(k.Given()), "edge(z, z).")
	}
	for _, pred := range []string{"apart", "node", "path", "apart"} {
		watch(t, k, pred, ask)
	}
	for _, add := range []string{"edge(c, a).", "edge(d, d). edge(x, a).", "p(1)."} {
		c := k.Copy()
		mustChange(t, c, "", add)
		want = seen(c)
		mustChange(t, k, "", add)
		c = k.Copy()
		mustChange(t, c, "edge(a, b).", "edge(a, b). edge(b, a).")
		want = seen(c)
		mustChange(t, k, "edge(a, b).", "edge(a, b). edge(b, a).")
		c = k.Copy()
		mustChange(t, c, "edge(b, a).", "")
		want = seen(c)
		mustChange(t, k, "edge(b, a).", "")
	}
	if calls != 48 {
		t.Errorf("%d calls", calls)
	}
}

// What a watcher is handed is its own: nobody else sees what it writes there.
func TestWatchersSpoilTheirFacts(t *testing.T) {
	k, h := open(t, ways, ""), &heard{}
	var kept []api.Fact
	spoil := func(came bool, f api.Fact) {
		kept = append(kept, f)
		for place := range f.Args {
			f.Args[place] = number(9)
		}
		f.Args = append(f.Args, number(9))
	}
	watch(t, k, "path", spoil)
	watch(t, k, "path", h.as(""))
	watch(t, k, "path", spoil)
	change(t, k, "edge(b, c).", "edge(b, d).", "apart(d, a). apart(d, b). apart(d, d). edge(b, d). node(d). path(a, d). path(b, d).", "apart(c, a). apart(c, b). apart(c, c). edge(b, c). node(c). path(a, c). path(b, c).")
	h.want(t, "-path(a, c) -path(b, c) +path(a, d) +path(b, d)")
	wantFacts(t, "Facts", k.Facts(), "apart(a, a). apart(b, a). apart(b, b). apart(d, a). apart(d, b). apart(d, d). edge(a, b). edge(b, d). node(a). node(b). node(d). path(a, b). path(a, d). path(b, d).")
	came, _, _ := k.Change(nil, facts("path(z, z)."))
	for _, f := range kept {
		f.Args[0] = number(8)
	}
	wantFacts(t, "came", came, "path(z, z).")
}
