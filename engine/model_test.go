package engine_test

import (
	"fmt"
	"math"
	"math/rand"
	"slices"
	"strings"
	"testing"

	"edict/api"
	"edict/bound"
	"edict/engine"
	"edict/parse"
	"edict/print"
)

// Engines held against plain ones, over wild programs.

// wild makes texts and calls.
type wild struct{ *rand.Rand }

func (w wild) of(words ...string) string { return words[w.Intn(len(words))] }

// arity is that of the predicates a to f.
func arity(pred string) int { return []int{0, 1, 1, 2, 2, 0}[pred[0]-'a'] }

func (w wild) pred() string { return w.of("a", "b", "c", "d", "e", "f", "b", "c", "d", "d") }

func (w wild) constant() string { return w.of("1", "x", `"x"`, "1", "x") }

// term is one of the variables, or a constant.
func (w wild) term(vars []string) string {
	if len(vars) == 0 || w.Intn(9) == 0 {
		return w.constant()
	}
	return w.of(vars...)
}

func (w wild) atom(pred string, term func() string) string {
	if arity(pred) == 0 {
		return pred
	}
	var args []string
	for range arity(pred) {
		args = append(args, term())
	}
	return pred + "(" + strings.Join(args, ", ") + ")"
}

// rule has up to three variables; those that nothing binds are rare.
func (w wild) rule() string {
	var parts, vars []string
	count := 0
	for range w.Intn(7) / 2 {
		parts = append(parts, w.atom(w.pred(), func() string {
			if w.Intn(12) == 0 || count >= 3 {
				return w.constant()
			}
			v := w.of("X", "Y", "Z", "_")
			if v == "_" {
				count++
			} else if !slices.Contains(vars, v) {
				vars = append(vars, v)
				count++
			}
			return v
		}))
	}
	if w.Intn(40) == 0 {
		vars = append(vars, w.of("Z", "_"))
	}
	for len(parts) < 8 && w.Intn(4) == 0 {
		parts = append(parts, w.term(vars)+" "+w.of("=", "!=", "<", "<=", ">", ">=")+" "+w.term(vars))
	}
	for len(parts) == 0 || len(parts) < api.MaxBody && w.Intn(3) == 0 {
		parts = append(parts, "not "+w.atom(w.of("a", "b", "d", w.pred()), func() string { return w.term(vars) }))
	}
	w.Shuffle(len(parts), func(i, j int) { parts[i], parts[j] = parts[j], parts[i] })
	head := w.atom(w.of("c", "e", "f", w.pred()), func() string { return w.term(vars) })
	return head + " :- " + strings.Join(parts, ", ") + "."
}

func (w wild) fact() string { return w.atom(w.pred(), w.constant) + "." }

func (w wild) texts() (string, string) {
	var src, facts []string
	for range w.Intn(7) {
		src = append(src, w.rule())
	}
	for range w.Intn(5) {
		src = append(src, w.fact())
	}
	for range w.Intn(20) {
		facts = append(facts, w.fact())
	}
	w.Shuffle(len(src), func(i, j int) { src[i], src[j] = src[j], src[i] })
	if len(src) > 0 && w.Intn(4) == 0 {
		src = append(src, w.of(src...))
	}
	return strings.Join(src, w.of(" ", "\n")), strings.Join(facts, " ")
}

func (w wild) picks() (picks []int) {
	for range w.Intn(12) {
		picks = append(picks, w.Intn(31)-15)
	}
	return picks
}

// faultOf is the first of Load's faults of texts that have the right form and stay within the limits, by DOC.md's list.
func faultOf(p api.Program, facts []api.Atom) api.Fault {
	arities := map[string]int{}
	clash := func(text int, a api.Atom) api.Fault {
		if was, stood := arities[a.Pred]; stood && was != len(a.Args) {
			return api.Fault{Code: api.ErrClash, Text: text, Off: a.Off}
		}
		arities[a.Pred] = len(a.Args)
		return api.Fault{}
	}
	for _, c := range p.Clauses {
		atoms := []api.Atom{c.Head}
		for _, l := range c.Body {
			if l.Kind != api.LTest {
				atoms = append(atoms, l.Atom)
			}
		}
		for _, a := range atoms {
			if fault := clash(0, a); fault.Code != api.OK {
				return fault
			}
		}
	}
	for _, a := range facts {
		if fault := clash(1, a); fault.Code != api.OK {
			return fault
		}
	}
	for _, c := range p.Clauses {
		if off := firstUnbound(c); off >= 0 {
			return api.Fault{Code: api.ErrRange, Off: off}
		}
	}
	if off := firstBad(p); off >= 0 {
		return api.Fault{Code: api.ErrStrata, Off: off}
	}
	return api.Fault{}
}

func firstUnbound(c api.Clause) int {
	bound := map[string]int{}
	asking := slices.Clone(c.Head.Args)
	for _, l := range c.Body {
		if l.Kind == api.LPos {
			for _, t := range l.Atom.Args {
				if t.Text != "_" {
					bound[t.Text] = 1
				}
			}
			continue
		}
		asking = append(asking, l.Atom.Args...)
		if l.Kind == api.LTest {
			asking = append(asking, l.Left, l.Right)
		}
	}
	for _, t := range asking {
		if t.Kind == api.KVar && bound[t.Text] == 0 {
			return t.Off
		}
	}
	return -1
}

// firstBad is the place of the first negated literal whose predicate its rule's head reaches, or -1.
func firstBad(p api.Program) int {
	reaches, heads := map[[2]string]int{}, map[string]int{}
	for _, c := range p.Clauses {
		heads[c.Head.Pred] = 1
	}
	for range p.Clauses { // a walk that is no longer than there are rules will do
		for _, c := range p.Clauses {
			for _, l := range c.Body {
				if l.Kind == api.LTest {
					continue
				}
				reaches[[2]string{l.Atom.Pred, c.Head.Pred}] = 1
				for other := range heads { // what is no head is on no closed walk
					if reaches[[2]string{other, l.Atom.Pred}] == 1 {
						reaches[[2]string{other, c.Head.Pred}] = 1
					}
				}
			}
		}
	}
	for _, c := range p.Clauses {
		for _, l := range c.Body {
			if l.Kind == api.LNeg && (l.Atom.Pred == c.Head.Pred || reaches[[2]string{c.Head.Pred, l.Atom.Pred}] == 1) {
				return l.Off
			}
		}
	}
	return -1
}

// loadBoth is an engine and a plain one, or nothing, where both refuse the texts at the same place.
func loadBoth(t *testing.T, src, facts string) (*engine.Engine, *plain) {
	t.Helper()
	p, fault := parse.Program(src)
	given, other := parse.Facts(facts)
	if fault.Code != api.OK || other.Code != api.OK {
		t.Fatalf("%q, %q: %v, %v", src, facts, fault, other)
	}
	want := faultOf(p, given)
	e, info, got := engine.Load(src, facts)
	if got != want || (e == nil) != (want.Code != api.OK) || (e == nil && info != api.Info{}) || (want.Code != api.ErrClash && want.Code != api.ErrRange && (plainLevels(p) == nil) != (want.Code == api.ErrStrata)) {
		t.Fatalf("Load(%q, %q) = an engine %v, %v, %v, want %v", src, facts, e != nil, info, got, want)
	}
	if e == nil {
		return nil, nil
	}
	return e, newPlain(p, given)
}

// wantAlike holds all that an engine tells of its memory against a plain one.
func wantAlike(t *testing.T, e *engine.Engine, m *plain) bool {
	t.Helper()
	var facts, conflict, eligible []string
	for _, f := range m.memory {
		facts = append(facts, print.Fact(f))
	}
	for _, a := range m.conflict() {
		conflict = append(conflict, a.text())
	}
	for _, a := range m.eligible() {
		eligible = append(eligible, a.text())
	}
	same := func(what string, got, want []string) bool {
		if !slices.Equal(got, want) {
			t.Errorf("%s = %q, want %q", what, got, want)
			return false
		}
		return true
	}
	model := ""
	for _, line := range m.lines() {
		model += line + ".\n"
	}
	return same("Facts", factTexts(e.Facts()), facts) && same("Conflict", actTexts(e.Conflict()), conflict) && same("Eligible", actTexts(e.Eligible()), eligible) &&
		same("Log", logTexts(e.Log()), m.log) && same("Model", []string{e.Model()}, []string{model})
}

// pair is an engine and a plain one that is told the same.
type pair struct {
	e *engine.Engine
	m *plain
}

// call does the same to both.
func (w wild) call(t *testing.T, p pair) bool {
	t.Helper()
	if w.Intn(12) == 0 {
		p.e.Reset()
		p.m.reset()
		return true
	}
	picks, steps, mem := w.picks(), uint64(w.Intn(5)), uint64(w.Intn(30))
	if w.Intn(3) == 0 {
		steps = most
	}
	switch w.Intn(6) {
	case 0:
		mem = most
	case 1, 2:
		mem = p.m.live() + uint64(w.Intn(3))
	case 3:
		mem = most - 1
	}
	if got, want := p.e.Run(picks, steps, mem), p.m.run(picks, steps, mem); got != want {
		t.Errorf("Run(%v, %d, %d) = %+v, want %+v", picks, steps, mem, got, want)
		return false
	}
	return true
}

// Scripts of runs, resets and forks; at each time all of an engine, or of one of its forks, is held against the plain one.
func TestWildScripts(t *testing.T) {
	w := wild{rand.New(rand.NewSource(14))}
	accepted, forks := 0, 0
	for round := range 1500 {
		src, facts := w.texts()
		e, m := loadBoth(t, src, facts)
		if e == nil {
			continue
		}
		accepted++
		pairs := []pair{{e, m}}
		for range w.Intn(8) {
			p := pairs[w.Intn(len(pairs))]
			if len(pairs) < 4 && w.Intn(4) == 0 {
				pairs = append(pairs, pair{p.e.Fork(), p.m.fork()})
				forks++
			}
			look := w.Intn(3) > 0
			if !w.call(t, p) || look && !wantAlike(t, p.e, p.m) {
				t.Fatalf("round %d: %q, %q", round, src, facts)
			}
		}
		for num, p := range pairs {
			if !wantAlike(t, p.e, p.m) {
				t.Fatalf("round %d, engine %d: %q, %q", round, num, src, facts)
			}
		}
	}
	if accepted < 700 || forks < 300 {
		t.Errorf("%d programs accepted, %d forks: too few", accepted, forks)
	}
}

// P6, P7, P8, P9: runs in pieces, whatever is picked, come to rest within the bounds, and to the perfect model.
func TestWildRest(t *testing.T) {
	w := wild{rand.New(rand.NewSource(15))}
	steps, old, high, refused := 0, 0, 0, 0
	for round := range 700 {
		src, facts := w.texts()
		e, m := loadBoth(t, src, facts)
		if e == nil {
			refused++
			continue
		}
		perfect, given, info := m.perfect(), m.lines(), e.Info()
		for range 2 {
			taken := uint64(0)
			for piece := range 30 {
				out := e.Run(w.picks(), uint64(w.Intn(3)), info.Tokens)
				taken += out.Steps
				now := factTexts(e.Facts())
				outside := func(f string) bool { _, in := slices.BinarySearch(perfect, f); return !in }
				missing := func(f string) bool { return !slices.Contains(now, f) }
				if slices.ContainsFunc(now, outside) || slices.ContainsFunc(given, missing) {
					t.Fatalf("round %d: %q, %q: %q between %q and %q", round, src, facts, now, given, perfect)
				}
				if out.Stop == api.MemBudget || out.Live > info.Tokens {
					t.Fatalf("round %d: %q, %q: %v with the token bound", round, src, facts, out)
				}
				if piece == 3 && w.Intn(2) == 0 {
					e = e.Fork() // the steps up to the fork are counted in
				}
			}
			out := e.Run(w.picks(), info.Bound, info.Tokens)
			taken += out.Steps
			if out.Stop != api.Done || taken > info.Bound || len(e.Log()) != int(taken) || len(e.Eligible()) > 0 {
				t.Fatalf("round %d: %q, %q: %v behind %d steps in all, bounds %v", round, src, facts, out, taken, info)
			}
			if now := slices.Sorted(slices.Values(factTexts(e.Facts()))); !slices.Equal(now, perfect) {
				t.Fatalf("round %d: %q, %q: %q, want %q", round, src, facts, now, perfect)
			}
			steps += int(taken)
			for _, f := range e.Log() {
				if !f.Fresh {
					old++
				}
				if m.rules[f.Rule].stratum > 0 {
					high++
				}
			}
			e.Reset()
		}
	}
	if steps < 3000 || old < 800 || high < 800 || refused < 80 {
		t.Errorf("%d steps, %d without a new fact, %d above stratum 0, %d programs refused: too few", steps, old, high, refused)
	}
}

// The bounds by their words: D to the number of variables, rule by rule and node by node.
func TestWildInfo(t *testing.T) {
	w := wild{rand.New(rand.NewSource(16))}
	for range 700 {
		src, facts := w.texts()
		e, m := loadBoth(t, src, facts)
		if e == nil {
			continue
		}
		d, nodes := uint64(len(m.consts)), map[string]int{}
		want := api.Info{Consts: len(m.consts), Rules: len(m.rules), Facts: len(m.given), Nodes: 1}
		for _, r := range m.rules {
			want.Bound = bound.Add(want.Bound, bound.Pow(d, uint64(len(r.vars))))
			want.Strata = max(want.Strata, r.stratum+1)
			for k := 1; k <= len(r.chain); k++ {
				if text := r.nodeText(k); nodes[text] == 0 {
					nodes[text] = 1
					want.Nodes++
					want.Tokens = bound.Add(want.Tokens, bound.Pow(d, uint64(r.width(k))))
				}
			}
		}
		preds := map[string]int{}
		p, _ := parse.Program(src)
		given, _ := parse.Facts(facts)
		for _, c := range p.Clauses {
			preds[c.Head.Pred] = 1
			for _, l := range c.Body {
				if l.Kind != api.LTest {
					preds[l.Atom.Pred] = 1
				}
			}
		}
		for _, a := range given {
			preds[a.Pred] = 1
		}
		want.Preds = len(preds)
		if want.Preds > 0 {
			want.Strata = max(want.Strata, 1)
		}
		if got := e.Info(); got != want {
			t.Fatalf("Info of %q, %q = %+v, want %+v", src, facts, got, want)
		}
	}
}

// E3: a run in two pieces, the second with the rest of the picks, is as one.
func TestWildPieces(t *testing.T) {
	w := wild{rand.New(rand.NewSource(17))}
	cut := 0
	for range 900 {
		src, facts := w.texts()
		one, m := loadBoth(t, src, facts)
		if one == nil {
			continue
		}
		two, picks, a, b := one.Fork(), w.picks(), w.Intn(6), w.Intn(6)
		mem := []uint64{most, m.live() + uint64(w.Intn(9)), one.Info().Tokens}[w.Intn(3)]
		whole := one.Run(picks, uint64(a+b), mem)
		first := two.Run(picks, uint64(a), mem)
		if first.Stop != api.StepBudget {
			continue
		}
		cut++
		second := two.Run(picks[min(a, len(picks)):], uint64(b), mem)
		second.Steps += first.Steps
		second.Fresh += first.Fresh
		if whole != second || state(one) != state(two) {
			t.Fatalf("%q, %q: %v in one run, %v in two", src, facts, whole, second)
		}
	}
	if cut < 100 {
		t.Errorf("only %d runs were cut", cut)
	}
}

// Has over all facts that can be made of the program's names, and some others.
func TestWildHas(t *testing.T) {
	w := wild{rand.New(rand.NewSource(18))}
	for range 150 {
		src, facts := w.texts()
		e, m := loadBoth(t, src, facts)
		if e == nil {
			continue
		}
		e.Run(nil, 4, most)
		m.run(nil, 4, most)
		consts := []api.Const{number(1), name("x"), {Kind: api.KText, Text: "x"}, name("y"), {Kind: api.KVar, Text: "X"}}
		for _, pred := range []string{"a", "b", "c", "d", "e", "f", "g", ""} {
			all := [][]api.Const{{}}
			for range 4 {
				for _, args := range all {
					f := api.Fact{Pred: pred, Args: args}
					if got := e.Has(f); got != m.has(f) || got && print.Fact(f) == "" {
						t.Fatalf("%q, %q: Has(%v) = %v", src, facts, f, got)
					}
				}
				var longer [][]api.Const
				for _, args := range all {
					for _, c := range consts {
						longer = append(longer, append(slices.Clone(args), c))
					}
				}
				all = longer
			}
		}
	}
}

// Texts with wrong bytes and texts that are cut off: just one of an engine and the first fault is answered.
func TestWildBytes(t *testing.T) {
	w := wild{rand.New(rand.NewSource(19))}
	spoil := func(text string) string {
		bytes := []byte(text)
		for range w.Intn(3) {
			if len(bytes) > 0 {
				bytes[w.Intn(len(bytes))] = byte(w.of("(", ")", ",", ".", "X", "_", " ", "%", "\"", "a", "1", "\xff")[0])
			}
		}
		return string(bytes[:w.Intn(len(bytes)+1)])
	}
	for range 3000 {
		src, facts := w.texts()
		if w.Intn(2) == 0 {
			src = spoil(src)
		} else {
			facts = spoil(facts)
		}
		e, info, fault := engine.Load(src, facts)
		if (e == nil) == (fault == api.Fault{}) || e == nil && info != (api.Info{}) {
			t.Fatalf("Load(%q, %q) = an engine %v, %v, %v", src, facts, e != nil, info, fault)
		}
		p, first := parse.Program(src)
		given, second := parse.Facts(facts)
		second.Text = 1
		want := first
		if first.Code == api.OK && second.Code != api.OK {
			want = second
		} else if first.Code == api.OK {
			want = faultOf(p, given)
		}
		if fault != want {
			t.Fatalf("Load(%q, %q) = %v, want %v", src, facts, fault, want)
		}
	}
}

// Two engines of the same texts have nothing to do with each other, and forks may run at the same time.
func TestEnginesApart(t *testing.T) {
	one, two := load(t, paths, ""), load(t, paths, "")
	was := seen(two)
	one.Run(nil, most, most)
	wantSame(t, "the other engine", seen(two), was)
	two.Run([]int{4}, 3, most)
	const workers = 8
	texts, ends := make([]string, workers), make(chan int)
	for num := range workers {
		fork := two.Fork()
		go func() {
			for step := range 12 {
				fork.Run([]int{num * step}, 1, most)
				fork.Conflict()
			}
			texts[num] = fmt.Sprint(fork.Model(), len(fork.Log()))
			ends <- num
		}()
	}
	for range workers {
		<-ends
	}
	for num, text := range texts {
		if want := pathsModel + "13"; text != want {
			t.Errorf("worker %d: %q, want %q", num, text, want)
		}
	}
}

// The greatest numbers as budgets.
func TestGreatestBudgets(t *testing.T) {
	for _, steps := range []uint64{13, 14, math.MaxInt64, most - 1, most} {
		for _, mem := range []uint64{24, 25, math.MaxInt64, most - 1, most} {
			wantRun(t, load(t, paths, ""), nil, steps, mem, done(13, 12, 24))
		}
	}
}
