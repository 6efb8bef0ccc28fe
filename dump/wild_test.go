package dump_test

import (
	"math/rand"
	"slices"
	"strings"
	"testing"

	"edict/api"
	"edict/engine"
)

// wild makes texts, engines and bytes.
type wild struct{ *rand.Rand }

func newWild(seed int64) wild { return wild{rand.New(rand.NewSource(seed))} }

func (w wild) of(words ...string) string { return words[w.Intn(len(words))] }

// arities of the predicates: facts are of a to e mostly, heads of d to i.
var arities = map[string]int{"a": 1, "b": 2, "c": 2, "d": 0, "e": 2, "f": 1, "g": 2, "h": 1, "i": 2}

func (w wild) head() string { return w.of("e", "f", "g", "h", "i", "e", "g", "d") }

func (w wild) base() string { return w.of("a", "b", "c", "b", "c", "b", "b", "c", "e", "d") }

func (w wild) pred() string { return w.of(w.head(), w.head(), w.base()) }

func (w wild) constant() string { return w.of("x", "y", "z", "x", "y", "z", "7", `"x"`) }

func (w wild) term(vars []string) string {
	if len(vars) == 0 || w.Intn(12) == 0 {
		return w.constant()
	}
	return w.of(vars...)
}

func (w wild) atom(pred string, term func() string) string {
	var args []string
	for range arities[pred] {
		args = append(args, term())
	}
	if len(args) == 0 {
		return pred
	}
	return pred + "(" + strings.Join(args, ", ") + ")"
}

// rule has up to three variables, each bound by a positive atom.
func (w wild) rule() string {
	var parts, vars []string
	count := 0
	for range w.Intn(9) / 2 {
		parts = append(parts, w.atom(w.pred(), func() string {
			if w.Intn(20) == 0 || count >= 3 {
				return w.term(vars)
			}
			v := w.of("X", "Y", "Z", "_")
			if v == "_" {
				count++
			} else if !slices.Contains(vars, v) {
				vars = append(vars, v)
				count++
			}
			return v
		}))
	}
	for len(parts) < 8 && w.Intn(5) == 0 {
		parts = append(parts, w.term(vars)+" "+w.of("=", "!=", "<", "<=", ">", ">=")+" "+w.term(vars))
	}
	for len(parts) == 0 || len(parts) < api.MaxBody && w.Intn(5) == 0 {
		parts = append(parts, "not "+w.atom(w.of("a", "b", "c", w.pred()), func() string { return w.term(vars) }))
	}
	w.Shuffle(len(parts), func(i, j int) { parts[i], parts[j] = parts[j], parts[i] })
	return w.atom(w.head(), func() string { return w.term(vars) }) + " :- " + strings.Join(parts, ", ") + "."
}

// known is rules that bring one another far.
func (w wild) known() string {
	return w.of("g(X, Y) :- b(X, Y).", "g(X, Z) :- b(X, Y), g(Y, Z).", "g(X, Z) :- g(X, Y), g(Y, Z).", "i(Y, X) :- g(X, Y), c(_, Y).", "i(X, X) :- i(X, Y), i(Y, X).",
		"h(X) :- i(X, _), not f(X).", "d :- h(X), h(Y), X < Y.", "e(X, Y) :- h(X), a(Y).", "f(X) :- a(X), not b(X, X).", "f(Y) :- b(_, Y), c(Y, Y).", "h(X) :- g(X, X), d, not a(X).",
		"i(X, Z) :- b(X, Y), b(Y, Z), c(Z, _), X != Z, not a(Y), not f(Z).", "e(X, Y) :- b(X, Y), b(Y, X), b(X, _), X <= Y, not c(X, X), not a(Y).")
}

func (w wild) texts() (string, string) {
	var src, facts []string
	for range w.Intn(5) {
		src = append(src, w.rule())
	}
	for range w.Intn(12) {
		src = append(src, w.known())
	}
	for range 3 + w.Intn(18) {
		facts = append(facts, w.atom(w.base(), w.constant)+".")
	}
	if len(src) > 0 && w.Intn(4) == 0 {
		src = append(src, w.of(src...))
	}
	if w.Intn(3) == 0 {
		src = append(src, w.atom(w.pred(), w.constant)+".")
	}
	w.Shuffle(len(src), func(i, j int) { src[i], src[j] = src[j], src[i] })
	return strings.Join(src, w.of(" ", "\n", "\r\n")), strings.Join(facts, w.of(" ", "", "/* \xFF */"))
}

func (w wild) run() run {
	r := run{steps: uint64(w.Intn(12)), mem: uint64(20 + w.Intn(2000))}
	for range w.Intn(9) {
		r.picks = append(r.picks, w.Intn(31)-15)
	}
	if w.Intn(5) == 0 {
		r.steps, r.mem = most, most
	}
	return r
}

// engine is one that Load accepted and that has run somewhere: in pieces, with budgets, or to the end; nil where the texts have no levels.
func (w wild) engine(t *testing.T) *engine.Engine {
	t.Helper()
	src, facts := w.texts()
	e, _, fault := engine.Load(src, facts)
	if e == nil {
		if fault.Code != api.ErrStrata {
			t.Fatalf("Load(%q, %q) = %v", src, facts, fault)
		}
		return nil
	}
	for range w.Intn(4) {
		r := w.run()
		e.Run(r.picks, r.steps, r.mem)
		if w.Intn(8) == 0 {
			e = e.Fork()
		}
		if w.Intn(20) == 0 {
			e.Reset()
		}
	}
	return e
}

// engines is so many engines.
func (w wild) engines(t *testing.T, count int) (all []*engine.Engine) {
	for len(all) < count {
		if e := w.engine(t); e != nil {
			all = append(all, e)
		}
	}
	return all
}
