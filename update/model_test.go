package update_test

import (
	"cmp"
	"fmt"
	"math"
	"math/rand"
	"slices"
	"strings"
	"testing"

	"edict/api"
	"edict/engine"
	"edict/parse"
	"edict/print"
	"edict/sym"
	"edict/update"
)

// Scripts of changes held against a plain keeper by the chapter's words, over wild programs.

// plain is the rules and the given facts, in lists.
type plain struct {
	rules []api.Clause
	given []api.Fact
	known []api.Fact // the model, if it was asked for since the given facts are these
}

func newPlain(src string, text string) *plain {
	p := &plain{}
	program, _ := parse.Program(src)
	for _, c := range program.Clauses {
		if len(c.Body) == 0 {
			p.give(plainFact(c.Head, nil))
			continue
		}
		for i, l := range c.Body {
			for j, x := range l.Atom.Args {
				if x.Kind == api.KVar && x.Text == "_" {
					l.Atom.Args[j].Text = fmt.Sprint("_", i, "_", j)
				}
			}
		}
		p.rules = append(p.rules, c)
	}
	for _, f := range facts(text) {
		p.give(f)
	}
	return p
}

func (p *plain) give(f api.Fact) {
	if !has(p.given, f) {
		p.given, p.known = append(p.given, f), nil
	}
}

// plainFact is an atom under what its variables stand for.
func plainFact(a api.Atom, as map[string]api.Const) api.Fact {
	f := api.Fact{Pred: a.Pred}
	for _, x := range a.Args {
		f.Args = append(f.Args, plainConst(x, as))
	}
	return f
}

func plainConst(x api.Term, as map[string]api.Const) api.Const {
	if x.Kind == api.KVar {
		return as[x.Text]
	}
	return api.Const{Kind: x.Kind, Int: x.Int, Text: x.Text}
}

func plainHolds(l api.Literal, model map[string]int, as map[string]api.Const) bool {
	switch l.Kind {
	case api.LPos:
		return model[print.Fact(plainFact(l.Atom, as))] > 0
	case api.LNeg:
		return model[print.Fact(plainFact(l.Atom, as))] == 0
	}
	by := sym.Compare(plainConst(l.Left, as), plainConst(l.Right, as))
	return map[int]int{api.OpEq: 2, api.OpNe: 5, api.OpLt: 1, api.OpLe: 3, api.OpGt: 4, api.OpGe: 6}[l.Op]>>(by+1)&1 == 1
}

// consts is D's constants.
func (p *plain) consts() (list []api.Const) {
	put := func(c api.Const) {
		if c.Kind != api.KVar && !slices.Contains(list, c) {
			list = append(list, c)
		}
	}
	for _, f := range p.given {
		for _, c := range f.Args {
			put(c)
		}
	}
	for _, r := range p.rules {
		terms := slices.Clone(r.Head.Args)
		for _, l := range r.Body {
			terms = append(terms, l.Atom.Args...)
			if l.Kind == api.LTest {
				terms = append(terms, l.Left, l.Right)
			}
		}
		for _, x := range terms {
			put(api.Const{Kind: x.Kind, Int: x.Int, Text: x.Text})
		}
	}
	return list
}

// levels is by predicate of the rules; the rules have some.
func (p *plain) levels() map[string]int {
	levels := map[string]int{}
	for range api.MaxPreds {
		for _, r := range p.rules {
			for _, l := range r.Body {
				switch l.Kind {
				case api.LPos:
					levels[r.Head.Pred] = max(levels[r.Head.Pred], levels[l.Atom.Pred])
				case api.LNeg:
					levels[r.Head.Pred] = max(levels[r.Head.Pred], levels[l.Atom.Pred]+1)
				}
			}
		}
	}
	return levels
}

// variables is what stands in a rule's positive atoms.
func variables(r api.Clause) (names []string) {
	for _, l := range r.Body {
		for _, x := range l.Atom.Args {
			if l.Kind == api.LPos && x.Kind == api.KVar && !slices.Contains(names, x.Text) {
				names = append(names, x.Text)
			}
		}
	}
	return names
}

// assignments is all ways in which variables may stand for constants.
func assignments(names []string, consts []api.Const) []map[string]api.Const {
	all := []map[string]api.Const{{}}
	for _, name := range names {
		var longer []map[string]api.Const
		for _, as := range all {
			for _, c := range consts {
				next := map[string]api.Const{name: c}
				for n, x := range as {
					next[n] = x
				}
				longer = append(longer, next)
			}
		}
		all = longer
	}
	return all
}

func less(f, g api.Fact) int {
	if f.Pred != g.Pred {
		return cmp.Compare(f.Pred, g.Pred)
	}
	for place := range f.Args {
		if by := sym.Compare(f.Args[place], g.Args[place]); by != 0 {
			return by
		}
	}
	return 0
}

// model is the perfect model by DOC.md's words, sorted.
func (p *plain) model() []api.Fact {
	if p.known == nil {
		p.known = p.newModel()
	}
	return p.known
}

func (p *plain) newModel() []api.Fact {
	model := slices.Clone(p.given)
	texts := map[string]int{}
	for _, f := range model {
		texts[print.Fact(f)]++
	}
	consts, levels := p.consts(), p.levels()
	tried := make([][]map[string]api.Const, len(p.rules))
	for num, r := range p.rules {
		tried[num] = assignments(variables(r), consts)
	}
	for level := range api.MaxPreds {
		for fresh := true; fresh; {
			fresh = false
			for num, r := range p.rules {
				if levels[r.Head.Pred] != level {
					continue
				}
				for _, as := range tried[num] {
					head := plainFact(r.Head, as)
					if texts[print.Fact(head)] > 0 || slices.ContainsFunc(r.Body, func(l api.Literal) bool { return !plainHolds(l, texts, as) }) {
						continue
					}
					texts[print.Fact(head)]++
					model, fresh = append(model, head), true
				}
			}
		}
	}
	slices.SortFunc(model, less)
	return model
}

// arities is the known arities, with given facts of a list.
func (p *plain) arities(given []api.Fact) map[string]int {
	arities := map[string]int{}
	for _, r := range p.rules {
		arities[r.Head.Pred] = len(r.Head.Args)
		for _, l := range r.Body {
			if l.Kind != api.LTest {
				arities[l.Atom.Pred] = len(l.Atom.Args)
			}
		}
	}
	for _, f := range given {
		arities[f.Pred] = len(f.Args)
	}
	return arities
}

func mayBe(f api.Fact) bool {
	return sym.IsName(f.Pred) && len(f.Args) <= api.MaxArity && !slices.ContainsFunc(f.Args, func(c api.Const) bool { return !sym.Valid(c) })
}

// refusal is the first reason against a change, in the chapter's order.
func (p *plain) refusal(drop []api.Fact, add []api.Fact) api.Errno {
	left := without(p.given, drop)
	arities := p.arities(left)
	for _, f := range slices.Concat(drop, add) {
		if !mayBe(f) {
			return api.ErrArg
		}
	}
	if len(without(drop, p.given)) > 0 {
		return api.ErrNone
	}
	for _, f := range add {
		if has(p.given, f) && !has(drop, f) {
			return api.ErrTwice
		}
	}
	for _, f := range add {
		if arity, known := arities[f.Pred]; known && arity != len(f.Args) {
			return api.ErrClash
		}
		for _, g := range add {
			if f.Pred == g.Pred && len(f.Args) != len(g.Args) {
				return api.ErrClash
			}
		}
	}
	if len(p.arities(append(left, add...))) > api.MaxPreds {
		return api.ErrPreds
	}
	return api.OK
}

func (p *plain) change(drop []api.Fact, add []api.Fact) (came []api.Fact, went []api.Fact, e api.Errno) {
	if e := p.refusal(drop, add); e != api.OK {
		return nil, nil, e
	}
	was := p.model()
	p.given, p.known = without(p.given, drop), nil
	for _, f := range add {
		p.give(f)
	}
	is := p.model()
	return without(is, was), without(was, is), api.OK
}

// wild makes texts and changes.
type wild struct {
	*rand.Rand
	consts []string
}

func (w wild) of(words ...string) string { return words[w.Intn(len(words))] }

// arities of the predicates: facts are of a to e mostly, heads of d to i.
var arities = map[string]int{"a": 1, "b": 2, "c": 2, "d": 0, "e": 2, "f": 1, "g": 2, "h": 1, "i": 2, "x": 1, "y": 2}

func (w wild) head() string { return w.of("e", "f", "g", "h", "i", "e", "g", "d") }

func (w wild) base() string { return w.of("a", "b", "c", "b", "c", "b", "b", "c", "e", "d") }

func (w wild) pred() string { return w.of(w.head(), w.head(), w.base()) }

func (w wild) constant() string { return w.of(w.consts...) }

func (w wild) term(vars []string) string {
	if len(vars) == 0 || w.Intn(12) == 0 {
		return w.constant()
	}
	return w.of(vars...)
}

func (w wild) atom(pred string, term func() string) string {
	var args []string
	for range arities[pred] {
		args = append(args, term())
	}
	if len(args) == 0 {
		return pred
	}
	return pred + "(" + strings.Join(args, ", ") + ")"
}

// rule has up to three variables, each bound by a positive atom.
func (w wild) rule() string {
	var parts, vars []string
	count := 0
	for range w.Intn(9) / 2 {
		parts = append(parts, w.atom(w.pred(), func() string {
			if w.Intn(20) == 0 || count >= 3 {
				return w.term(vars)
			}
			v := w.of("X", "Y", "Z", "_")
			if v == "_" {
				count++
			} else if !slices.Contains(vars, v) {
				vars = append(vars, v)
				count++
			}
			return v
		}))
	}
	for len(parts) < 8 && w.Intn(5) == 0 {
		parts = append(parts, w.term(vars)+" "+w.of("=", "!=", "<", "<=", ">", ">=")+" "+w.term(vars))
	}
	for len(parts) == 0 || len(parts) < api.MaxBody && w.Intn(4) == 0 {
		parts = append(parts, "not "+w.atom(w.of("a", "b", "c", w.pred()), func() string { return w.term(vars) }))
	}
	w.Shuffle(len(parts), func(i, j int) { parts[i], parts[j] = parts[j], parts[i] })
	return w.atom(w.head(), func() string { return w.term(vars) }) + " :- " + strings.Join(parts, ", ") + "."
}

// known is rules that bring one another far.
func (w wild) known() string {
	return w.of("g(X, Y) :- b(X, Y).", "g(X, Z) :- b(X, Y), g(Y, Z).", "g(X, Z) :- g(X, Y), g(Y, Z).", "i(Y, X) :- g(X, Y), c(_, Y).", "i(X, X) :- i(X, Y), i(Y, X).",
		"h(X) :- i(X, _), not f(X).", "d :- h(X), h(Y), X < Y.", "e(X, Y) :- h(X), a(Y).", "f(X) :- a(X), not b(X, X).", "f(Y) :- b(_, Y), c(Y, Y).", "h(X) :- g(X, X), d, not a(X).",
		"i(X, Z) :- b(X, Y), b(Y, Z), c(Z, _), X != Z, not a(Y), not f(Z).", "e(X, Y) :- b(X, Y), b(Y, X), X <= Y, not c(X, X), not a(Y).", "i(X, Y) :- b(X, Y), not g(Y, X), not h(X).")
}

func (w wild) texts() (string, string) {
	var src, text []string
	for range w.Intn(4) {
		src = append(src, w.rule())
	}
	for range w.Intn(10) {
		src = append(src, w.known())
	}
	for range w.Intn(14) {
		text = append(text, w.atom(w.base(), w.constant)+".")
	}
	if w.Intn(3) == 0 {
		src = append(src, w.atom(w.pred(), w.constant)+".")
	}
	w.Shuffle(len(src), func(i, j int) { src[i], src[j] = src[j], src[i] })
	return strings.Join(src, " "), strings.Join(text, " ")
}

// fact is mostly one that fits the program.
func (w wild) fact() api.Fact {
	f := fact(w.atom(w.of(w.base(), w.base(), w.base(), w.base(), w.pred(), w.of("x", "y")), w.constant))
	switch w.Intn(60) {
	case 0:
		f.Args = append(f.Args, number(7))
	case 1:
		f.Args = f.Args[:len(f.Args)/2]
	case 2:
		list := wrong()
		return list[w.Intn(len(list))]
	}
	return f
}

// lists is what to take away and what to put in.
func (w wild) lists(given []api.Fact) (drop []api.Fact, add []api.Fact) {
	for range w.Intn(4) {
		if len(given) > 0 {
			drop = append(drop, given[w.Intn(len(given))])
		}
	}
	if w.Intn(12) == 0 {
		drop = append(drop, w.fact())
	}
	for range w.Intn(4) {
		if f := w.fact(); w.Intn(8) == 0 || !has(given, f) {
			add = append(add, f)
		}
	}
	if len(drop) > 0 && w.Intn(6) == 0 {
		add = append(add, drop[w.Intn(len(drop))])
	}
	return drop, add
}

// met counts what the scripts met.
type met struct{ programs, changes, cameAndWent, deep, idle, back, grown, fresh, heard, refused int }

// script is one keeper with its plain one.
type script struct {
	*testing.T
	wild
	k     *update.Keeper
	plain *plain
	met   *met
	told  *[]api.Fact // what a watcher of a predicate was told, went first
	pred  string
}

func (s *script) step() {
	drop, add := s.lists(s.plain.given)
	ahead := s.plain.model()
	came, went, e := s.k.Change(drop, add)
	wantCame, wantWent, want := s.plain.change(drop, add)
	if e != want || textOf(came) != textOf(wantCame) || textOf(went) != textOf(wantWent) {
		s.Fatalf("U2: Change(%v / %v) = %s / %s, %d, want %s / %s, %d", drop, add, textOf(came), textOf(went), e, textOf(wantCame), textOf(wantWent), want)
	}
	s.look(ahead, came, went)
	switch {
	case e != api.OK:
		s.met.refused++
		return
	case len(came) > 0 && len(went) > 0:
		s.met.cameAndWent++
	case len(came)+len(went) == 0:
		s.met.idle++
	}
	if len(came)+len(went) > len(drop)+len(add)+4 {
		s.met.deep++
	}
	s.met.changes++
	if len(drop) == 0 && !s.negates() {
		s.met.grown++
		if len(went) > 0 {
			s.Errorf("U6: %s went", textOf(went))
		}
	}
	s.back(drop, add, came, went)
}

// look is what a keeper tells.
func (s *script) look(ahead []api.Fact, came []api.Fact, went []api.Fact) {
	model := s.plain.model()
	given := slices.SortedFunc(slices.Values(s.plain.given), less)
	wantFacts(s.T, "Given", s.k.Given(), textOf(given))
	wantFacts(s.T, "Facts", s.k.Facts(), textOf(model))
	for _, f := range slices.Concat(ahead, model) {
		if s.k.Has(f) != has(model, f) {
			s.Errorf("Has(%v) = %v", f, s.k.Has(f))
		}
	}
	if len(without(came, went)) != len(came) || !sameSet(slices.Concat(without(ahead, went), came), model) {
		s.Errorf("U3: %s came and %s went, of %s became %s", textOf(came), textOf(went), textOf(ahead), textOf(model))
	}
	var want []api.Fact
	for _, f := range slices.Concat(went, came) {
		if f.Pred == s.pred {
			want = append(want, f)
		}
	}
	wantFacts(s.T, "what a watcher was told", *s.told, textOf(want))
	s.met.heard += len(want)
	*s.told = nil
}

func (s *script) negates() bool {
	return slices.ContainsFunc(s.plain.rules, func(r api.Clause) bool {
		return slices.ContainsFunc(r.Body, func(l api.Literal) bool { return l.Kind == api.LNeg })
	})
}

// back is U5 and U4.
func (s *script) back(drop []api.Fact, add []api.Fact, came []api.Fact, went []api.Fact) {
	c := s.k.Copy()
	if gone, new := without(drop, add), without(add, drop); len(gone)+len(new) > 0 {
		s.met.back++
		cameBack, wentBack, e := c.Change(new, gone)
		if e != api.OK || textOf(cameBack) != textOf(went) || textOf(wentBack) != textOf(came) {
			s.Errorf("U5: back from %v / %v: %s / %s, %d", drop, add, textOf(cameBack), textOf(wentBack), e)
		}
	}
	if s.Intn(6) > 0 {
		return
	}
	s.met.fresh++
	src, text := print.Program(api.Program{Clauses: s.plain.rules}), textOf(s.k.Given())
	fresh, fault := update.Open(src, text)
	if fault.Code != api.OK || seen(fresh) != seen(s.k) {
		s.Errorf("U4: opened anew: %v, %s, want %s", fault, seen(fresh), seen(s.k))
	}
	e, _, _ := engine.Load(src, text)
	e.Run([]int{s.Intn(9), s.Intn(9)}, math.MaxUint64, math.MaxUint64)
	if !sameSet(e.Facts(), s.k.Facts()) {
		s.Errorf("U1: the engine comes to %s, the keeper has %s", e.Model(), textOf(s.k.Facts()))
	}
}

// begin is a script over wild texts; nil where the texts have no levels.
func begin(t *testing.T, w wild, m *met) *script {
	src, text := w.texts()
	k, fault := update.Open(src, text)
	if fault.Code == api.ErrStrata {
		return nil
	}
	if fault.Code != api.OK {
		t.Fatalf("Open(%q, %q) = %v", src, text, fault)
	}
	s := &script{T: t, wild: w, k: k, plain: newPlain(src, text), met: m, told: &[]api.Fact{}, pred: w.of("d", "e", "f", "g", "h", "i", "b")}
	watch(t, k, w.pred(), func(bool, api.Fact) { panic("given up") })
	watch(t, k, s.pred, func(came bool, f api.Fact) {
		*s.told = append(*s.told, f)
		if s.k.Has(f) != came {
			t.Errorf("told of %v, came %v", f, came)
		}
	})
	model := s.plain.model()
	s.look(model, nil, nil)
	m.programs++
	return s
}

// U1 to U7
func TestWildScripts(t *testing.T) {
	w := wild{rand.New(rand.NewSource(19)), []string{"1", "x", `"x"`, "-3"}}
	m := &met{}
	for range 600 {
		s := begin(t, w, m)
		if s == nil {
			continue
		}
		for range 6 {
			s.step()
		}
		if t.Failed() {
			t.Fatalf("%s", print.Program(api.Program{Clauses: s.plain.rules}))
		}
	}
	if m.programs < 350 || m.changes < 1500 || m.cameAndWent < 500 || m.deep < 60 || m.idle < 80 || m.back < 1000 || m.grown < 60 || m.fresh < 200 || m.heard < 500 || m.refused < 200 {
		t.Errorf("met %+v", *m)
	}
}

// Two keepers of one beginning, each changed for itself.
func TestWildCopies(t *testing.T) {
	w := wild{rand.New(rand.NewSource(91)), []string{"1", "x", "y"}}
	m := &met{}
	for range 150 {
		s := begin(t, w, m)
		if s == nil {
			continue
		}
		s.step()
		other := *s
		other.k, other.plain, other.told, other.pred = s.k.Copy(), &plain{rules: s.plain.rules, given: slices.Clone(s.plain.given)}, &[]api.Fact{}, "none"
		for range 6 {
			other.step()
			s.step()
			if len(*other.told) > 0 {
				t.Error("a copy has watchers")
			}
		}
		if t.Failed() {
			t.Fatalf("%s", print.Program(api.Program{Clauses: s.plain.rules}))
		}
	}
	if m.programs < 80 || m.changes < 800 {
		t.Errorf("met %+v", *m)
	}
}

// Changes that are refused for one reason or another, or several.
func TestWildRefusals(t *testing.T) {
	w := wild{rand.New(rand.NewSource(7)), []string{"1", "x"}}
	k := open(t, "g(X) :- b(X), not n(X, X).", "b(1). p(1). q(x).")
	p := newPlain("g(X) :- b(X), not n(X, X).", "b(1). p(1). q(x).")
	counts := map[api.Errno]int{}
	for range 6000 {
		var lists [2][]api.Fact
		for num := range lists {
			for range w.Intn(4) {
				f := api.Fact{Pred: w.of("b", "n", "p", "q", "r", "g")}
				for range w.Intn(2 + w.Intn(2)) {
					f.Args = append(f.Args, fact("p("+w.constant()+")").Args...)
				}
				if w.Intn(30) == 0 {
					f = wrong()[w.Intn(len(wrong()))]
				}
				lists[num] = append(lists[num], f)
			}
		}
		if len(p.given) > 0 && w.Intn(2) == 0 {
			lists[0] = []api.Fact{p.given[w.Intn(len(p.given))]}
		}
		was := seen(k)
		came, went, e := k.Change(lists[0], lists[1])
		wantCame, wantWent, want := p.change(lists[0], lists[1])
		if e != want || textOf(came) != textOf(wantCame) || textOf(went) != textOf(wantWent) {
			t.Fatalf("Change(%v / %v) = %s / %s, %d, want %s / %s, %d", lists[0], lists[1], textOf(came), textOf(went), e, textOf(wantCame), textOf(wantWent), want)
		}
		if e != api.OK && seen(k) != was {
			t.Fatalf("a change that was refused has changed %s into %s", was, seen(k))
		}
		counts[e]++
	}
	if counts[api.OK] < 600 || counts[api.ErrArg] < 300 || counts[api.ErrNone] < 1000 || counts[api.ErrTwice] < 100 || counts[api.ErrClash] < 300 {
		t.Errorf("met %v", counts)
	}
}
