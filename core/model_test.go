package core_test

import (
	"math/rand"
	"slices"
	"strconv"
	"testing"

	"edict/api"
	"edict/core"
	"edict/parse"
	"edict/print"
	"edict/sym"
)

// What core answers, held against the chapter's words: a model that goes through plain lists, again for each thing that it looks for.

// spot is an atom or a term, and where it stands.
type spot struct {
	text int
	off  int
	atom api.Atom
	term api.Term
}

func literalAtoms(text int, ls []api.Literal) (out []spot) {
	for _, l := range ls {
		if l.Kind == api.LPos || l.Kind == api.LNeg {
			out = append(out, spot{text: text, off: l.Atom.Off, atom: l.Atom})
		}
	}
	return out
}

func allAtoms(p api.Program, facts []api.Atom) (out []spot) {
	for _, cl := range p.Clauses {
		out = append(out, spot{off: cl.Head.Off, atom: cl.Head})
		out = append(out, literalAtoms(0, cl.Body)...)
	}
	for _, a := range facts {
		out = append(out, spot{text: 1, off: a.Off, atom: a})
	}
	return out
}

func literalTerms(ls []api.Literal) (out []spot) {
	for _, l := range ls {
		ts := l.Atom.Args
		if l.Kind == api.LTest {
			ts = []api.Term{l.Left, l.Right}
		}
		for _, t := range ts {
			out = append(out, spot{off: t.Off, term: t})
		}
	}
	return out
}

func atomTerms(text int, a api.Atom) (out []spot) {
	for _, t := range a.Args {
		out = append(out, spot{text: text, off: t.Off, term: t})
	}
	return out
}

func allTerms(p api.Program, facts []api.Atom) (out []spot) {
	for _, cl := range p.Clauses {
		out = append(out, atomTerms(0, cl.Head)...)
		out = append(out, literalTerms(cl.Body)...)
	}
	for _, a := range facts {
		out = append(out, atomTerms(1, a)...)
	}
	return out
}

// modelVars is the variables of terms, each name once, but _ each time.
func modelVars(ts []spot) (vars []spot) {
	for _, s := range ts {
		came := slices.ContainsFunc(vars, func(o spot) bool { return o.term.Text == s.term.Text })
		if s.term.Kind == api.KVar && (s.term.Text == "_" || !came) {
			vars = append(vars, s)
		}
	}
	return vars
}

func positive(ls []api.Literal) (out []api.Literal) {
	for _, l := range ls {
		if l.Kind == api.LPos {
			out = append(out, l)
		}
	}
	return out
}

func modelNames(ls []api.Literal) (out []string) {
	for _, s := range modelVars(literalTerms(positive(ls))) {
		out = append(out, s.term.Text)
	}
	return out
}

func modelUnbound(cl api.Clause) (spot, bool) {
	asked := atomTerms(0, cl.Head)
	for _, l := range cl.Body {
		if l.Kind != api.LPos {
			asked = append(asked, literalTerms([]api.Literal{l})...)
		}
	}
	names := modelNames(cl.Body)
	for _, s := range asked {
		if s.term.Kind == api.KVar && (s.term.Text == "_" || !slices.Contains(names, s.term.Text)) {
			return s, true
		}
	}
	return spot{}, false
}

// modelPreds is had with the new predicates of atoms behind, or the fault.
func modelPreds(had []api.Pred, atoms []spot) ([]api.Pred, api.Fault) {
	had = slices.Clone(had)
	for _, s := range atoms {
		i := slices.IndexFunc(had, func(p api.Pred) bool { return p.Name == s.atom.Pred })
		if i >= 0 && had[i].Arity != len(s.atom.Args) {
			return nil, api.Fault{Code: api.ErrClash, Text: s.text, Off: s.off}
		}
		if i < 0 && len(had) >= 128 {
			return nil, api.Fault{Code: api.ErrPreds, Text: s.text, Off: s.off}
		}
		if i < 0 {
			had = append(had, api.Pred{Name: s.atom.Pred, Arity: len(s.atom.Args)})
		}
	}
	return had, api.Fault{}
}

// modelConsts does not know the limit: random things stay far below it.
func modelConsts(had []api.Const, terms []spot) []api.Const {
	had = slices.Clone(had)
	for _, s := range terms {
		k := api.Const{Kind: s.term.Kind, Int: s.term.Int, Text: s.term.Text}
		if k.Kind != api.KVar && !slices.Contains(had, k) {
			had = append(had, k)
		}
	}
	return had
}

func modelClauseFault(cl api.Clause) api.Fault {
	if vars := modelVars(append(atomTerms(0, cl.Head), literalTerms(cl.Body)...)); len(vars) > 16 {
		return api.Fault{Code: api.ErrVars, Off: vars[16].off}
	}
	if s, there := modelUnbound(cl); there {
		return api.Fault{Code: api.ErrRange, Off: s.off}
	}
	return api.Fault{}
}

// modelRule is a clause's body and head by plain looking: a blank has the place of the blank with as many ahead of it.
func modelRule(k api.Core, cl api.Clause) api.Rule {
	r := api.Rule{Vars: modelNames(cl.Body)}
	blanks := 0
	slot := func(t api.Term) api.Slot {
		if t.Kind != api.KVar {
			return c(slices.Index(k.Consts, api.Const{Kind: t.Kind, Int: t.Int, Text: t.Text}))
		}
		if t.Text != "_" {
			return v(slices.Index(r.Vars, t.Text))
		}
		blanks++
		seen := 0
		return v(slices.IndexFunc(r.Vars, func(s string) bool {
			if s == "_" {
				seen++
			}
			return seen == blanks
		}))
	}
	pattern := func(a api.Atom) api.Pattern {
		p := api.Pattern{Pred: slices.IndexFunc(k.Preds, func(p api.Pred) bool { return p.Name == a.Pred })}
		for _, t := range a.Args {
			p.Args = append(p.Args, slot(t))
		}
		return p
	}
	for _, l := range cl.Body {
		switch l.Kind {
		case api.LPos:
			r.Pos = append(r.Pos, pattern(l.Atom))
		case api.LNeg:
			r.Neg = append(r.Neg, pattern(l.Atom))
		case api.LTest:
			r.Tests = append(r.Tests, api.Test{Op: l.Op, Left: slot(l.Left), Right: slot(l.Right)})
		}
	}
	r.Head = pattern(cl.Head)
	return r
}

func modelRow(k api.Core, a api.Atom) api.Row {
	p := modelRule(k, clause(a)).Head
	r := api.Row{Pred: p.Pred}
	for _, s := range p.Args {
		r.Args = append(r.Args, s.N)
	}
	return r
}

func modelForm(p api.Program, facts []api.Atom) api.Fault {
	if e := print.Well(p); e != api.OK {
		return api.Fault{Code: e}
	}
	if len(facts) > 4096 {
		return api.Fault{Code: api.ErrClauses, Text: 1}
	}
	for _, a := range facts {
		var f api.Fact
		f.Pred = a.Pred
		for _, t := range a.Args {
			f.Args = append(f.Args, api.Const{Kind: t.Kind, Int: t.Int, Text: t.Text})
		}
		if print.Fact(f) == "" {
			return api.Fault{Code: api.ErrArg, Text: 1, Off: a.Off}
		}
	}
	return api.Fault{}
}

func modelBuild(p api.Program, facts []api.Atom) (api.Core, api.Fault) {
	if f := modelForm(p, facts); f.Code != api.OK {
		return api.Core{}, f
	}
	var k api.Core
	var f api.Fault
	if k.Preds, f = modelPreds(nil, allAtoms(p, facts)); f.Code != api.OK {
		return api.Core{}, f
	}
	for _, cl := range p.Clauses {
		if f := modelClauseFault(cl); f.Code != api.OK {
			return api.Core{}, f
		}
	}
	k.Consts = modelConsts(nil, allTerms(p, facts))
	var ground []api.Atom
	for i, cl := range p.Clauses {
		if len(cl.Body) == 0 {
			ground = append(ground, cl.Head)
			continue
		}
		r := modelRule(k, cl)
		r.Clause = i
		k.Rules = append(k.Rules, r)
	}
	for _, a := range append(ground, facts...) {
		if r := modelRow(k, a); !slices.ContainsFunc(k.Facts, func(o api.Row) bool { return same(o, r) }) {
			k.Facts = append(k.Facts, r)
		}
	}
	return k, api.Fault{}
}

func modelCoreFits(k api.Core) bool {
	for i, p := range k.Preds {
		if slices.IndexFunc(k.Preds, func(o api.Pred) bool { return o.Name == p.Name }) != i {
			return false
		}
	}
	for i, x := range k.Consts {
		if !sym.Valid(x) || slices.Index(k.Consts, x) != i {
			return false
		}
	}
	return true
}

func modelQuery(k api.Core, ls []api.Literal) (api.Core, api.Rule, api.Fault) {
	if !modelCoreFits(k) || print.Query(ls) == "" {
		return api.Core{}, api.Rule{}, api.Fault{Code: api.ErrArg}
	}
	wider := k
	var f api.Fault
	if wider.Preds, f = modelPreds(k.Preds, literalAtoms(0, ls)); f.Code == api.OK {
		f = modelClauseFault(api.Clause{Body: ls})
	}
	if f.Code != api.OK {
		return api.Core{}, api.Rule{}, f
	}
	wider.Consts = modelConsts(k.Consts, literalTerms(ls))
	r := modelRule(wider, api.Clause{Body: ls})
	r.Head, r.Clause = pat(-1), -1
	return wider, r, api.Fault{}
}

// chained is a clause with its literals in the chain's order and without offsets.
func chained(cl api.Clause) api.Clause {
	plainTerm := func(t api.Term) api.Term { t.Off = 0; return t }
	plainAtom := func(a api.Atom) api.Atom {
		b := api.Atom{Pred: a.Pred}
		for _, t := range a.Args {
			b.Args = append(b.Args, plainTerm(t))
		}
		return b
	}
	out := api.Clause{Head: plainAtom(cl.Head)}
	for _, kind := range []int{api.LPos, api.LTest, api.LNeg} {
		for _, l := range cl.Body {
			if l.Kind == kind {
				out.Body = append(out.Body, api.Literal{Kind: kind, Atom: plainAtom(l.Atom), Op: l.Op, Left: plainTerm(l.Left), Right: plainTerm(l.Right)})
			}
		}
	}
	return out
}

// maker makes random things. How many different words it takes, and how often it breaks one, tells what faults come.
type maker struct {
	*rand.Rand
	preds  int
	vars   int
	consts int
	terms  int     // at most so many in an atom
	atoms  int     // at most so many positive ones in a body
	clash  float64 // how often an atom has not its predicate's own number of terms
	loose  float64 // how often a variable stands where it need not be bound already
	broken float64 // how often something no text can have
}

func (m maker) often(part float64) bool { return m.Float64() < part }

// off is any number: things made by hand need not say where they stand.
func (m maker) off() int { return m.Intn(1000) - 100 }

func (m maker) constant() api.Term {
	n := m.Intn(m.consts)
	switch m.Intn(3) {
	case 0:
		return integer(int64(n)-1, m.off())
	case 1:
		return name("a"+strconv.Itoa(n), m.off())
	}
	return api.Term{Kind: api.KText, Text: []string{"a0", "a1", "", "X", "1"}[n%5], Off: m.off()}
}

func (m maker) variable() api.Term {
	if m.Intn(5) == 0 {
		return variable("_", m.off())
	}
	return variable([]string{"X", "Y", "_Z", "__"}[m.Intn(4)]+strconv.Itoa(m.Intn(m.vars)), m.off())
}

func (m maker) oddTerm() api.Term {
	return []api.Term{{}, name("X", m.off()), variable("x", m.off()), {Kind: api.KVar, Text: "X", Int: 1}, {Kind: 5, Text: "a"}, {Kind: api.KInt, Text: "a"}}[m.Intn(6)]
}

// term is a constant or, mostly, one of these variables; where there are none, any.
func (m maker) term(from []api.Term) api.Term {
	switch {
	case m.often(m.broken):
		return m.oddTerm()
	case m.Intn(3) == 0:
		return m.constant()
	case len(from) == 0 || m.often(m.loose):
		return m.variable()
	}
	t := from[m.Intn(len(from))]
	t.Off = m.off()
	return t
}

func (m maker) atom(term func() api.Term) api.Atom {
	n := m.Intn(m.preds)
	a := atom(m.off(), "p"+strconv.Itoa(n))
	terms := n * 5 % (m.terms + 1)
	if m.often(m.clash) {
		terms = m.Intn(m.terms + 1)
	}
	if m.often(m.broken) {
		a.Pred = []string{"", "P", "not"}[m.Intn(3)]
	}
	for range terms {
		a.Args = append(a.Args, term())
	}
	return a
}

func (m maker) fact() api.Atom {
	if m.often(m.broken) {
		return m.atom(m.variable)
	}
	return m.atom(m.constant)
}

// body makes the positive atoms first, so that the other literals can have their variables, and then mixes all.
func (m maker) body() (ls []api.Literal, bound []api.Term) {
	for range m.Intn(m.atoms + 1) {
		ls = append(ls, pos(m.atom(func() api.Term { return m.term(nil) })))
	}
	for _, s := range modelVars(literalTerms(ls)) {
		if s.term.Text != "_" {
			bound = append(bound, s.term)
		}
	}
	term := func() api.Term {
		if len(bound) == 0 && !m.often(m.loose) {
			return m.constant()
		}
		return m.term(bound)
	}
	for range m.Intn(4) {
		if m.Intn(2) == 0 {
			ls = append(ls, neg(m.atom(term)))
		} else {
			ls = append(ls, test(1+m.Intn(6), term(), term()))
		}
	}
	for i := range ls {
		if m.often(m.broken) {
			ls[i].Op, ls[i].Kind = m.Intn(9)-1, m.Intn(5)
		}
	}
	m.Shuffle(len(ls), func(i, j int) { ls[i], ls[j] = ls[j], ls[i] })
	return ls, bound
}

func (m maker) clause() api.Clause {
	ls, bound := m.body()
	if len(ls) == 0 && !m.often(m.loose) {
		return clause(m.fact())
	}
	return clause(m.atom(func() api.Term {
		if len(bound) == 0 && !m.often(m.loose) {
			return m.constant()
		}
		return m.term(bound)
	}), ls...)
}

func (m maker) program(clauses int) (p api.Program) {
	for range clauses {
		p.Clauses = append(p.Clauses, m.clause())
	}
	return p
}

func (m maker) facts() (facts []api.Atom) {
	for range m.Intn(8) {
		facts = append(facts, m.fact())
	}
	return facts
}

// holdBuild holds Build, Vars and Unbound against the model, and where a core is built, Back and Fact too.
func holdBuild(t *testing.T, p api.Program, facts []api.Atom) (api.Core, api.Fault) {
	t.Helper()
	want, wantF := modelBuild(p, facts)
	got, f := core.Build(p, facts)
	if f != wantF || !same(got, want) {
		t.Fatalf("Build(%+v, %+v)\n= %+v, %v\nwant %+v, %v", p, facts, got, f, want, wantF)
	}
	for _, cl := range p.Clauses {
		if got, want := core.Vars(cl.Body), modelNames(cl.Body); !slices.Equal(got, want) {
			t.Fatalf("Vars(%+v) = %q, want %q", cl.Body, got, want)
		}
		want := -1
		if s, there := modelUnbound(cl); there {
			want = s.off
		}
		if got := core.Unbound(cl); print.Clause(cl) != "" && got != want {
			t.Fatalf("Unbound(%+v) = %d, want %d", cl, got, want)
		}
	}
	holdBack(t, got, p, facts)
	return got, f
}

func holdBack(t *testing.T, k api.Core, p api.Program, facts []api.Atom) {
	t.Helper()
	for i, r := range k.Rules {
		wantBack(t, k, i, chained(p.Clauses[r.Clause]), api.OK)
	}
	if len(k.Preds) == 0 {
		return
	}
	var want, got []string
	for _, cl := range p.Clauses {
		if s := print.Atom(cl.Head); len(cl.Body) == 0 && !slices.Contains(want, s) {
			want = append(want, s)
		}
	}
	for _, a := range facts {
		if s := print.Atom(a); !slices.Contains(want, s) {
			want = append(want, s)
		}
	}
	for _, r := range k.Facts {
		f, e := core.Fact(k, r)
		if e != api.OK {
			t.Fatalf("Fact(%v) = %d", r, e)
		}
		got = append(got, print.Fact(f))
	}
	if !slices.Equal(got, want) {
		t.Fatalf("facts %q, want %q", got, want)
	}
}

func holdQuery(t *testing.T, k api.Core, ls []api.Literal) api.Fault {
	t.Helper()
	want, wantR, wantF := modelQuery(k, ls)
	got, r, f := core.Query(k, ls)
	if f != wantF || !same(got, want) || !same(r, wantR) {
		t.Fatalf("Query(%+v, %+v)\n= %+v,\n%+v, %v\nwant %+v,\n%+v, %v", k, ls, got, r, f, want, wantR, wantF)
	}
	return f
}

// wantSeen: a random test that never meets an answer says nothing about it.
func wantSeen(t *testing.T, what string, seen map[api.Errno]int, codes ...api.Errno) {
	t.Helper()
	for _, code := range codes {
		if seen[code] < 20 {
			t.Errorf("%s: the code %d was seen %d times: %v", what, code, seen[code], seen)
		}
	}
}

func TestRandomPrograms(t *testing.T) {
	rnd := rand.New(rand.NewSource(7))
	for _, m := range []struct {
		maker
		codes []api.Errno
	}{
		{maker{preds: 5, vars: 1, consts: 3, terms: 3, atoms: 3}, []api.Errno{api.OK}},
		{maker{preds: 5, vars: 1, consts: 3, terms: 3, atoms: 3, clash: 0.05, loose: 0.1}, []api.Errno{api.OK, api.ErrClash, api.ErrRange}},
		{maker{preds: 9, vars: 9, consts: 9, terms: 8, atoms: 6, loose: 0.05}, []api.Errno{api.OK, api.ErrVars, api.ErrRange}},
		{maker{preds: 5, vars: 2, consts: 3, terms: 3, atoms: 3, clash: 0.02, loose: 0.02, broken: 0.01}, []api.Errno{api.OK, api.ErrClash, api.ErrRange, api.ErrName, api.ErrConst, api.ErrArg}},
	} {
		m.Rand = rnd
		seen, asked := map[api.Errno]int{}, map[api.Errno]int{}
		for range 3000 {
			k, f := holdBuild(t, m.program(m.Intn(8)), m.facts())
			seen[f.Code]++
			ls, _ := m.body()
			asked[holdQuery(t, k, ls).Code]++
		}
		wantSeen(t, "Build", seen, m.codes...)
		wantSeen(t, "Query", asked, api.OK, api.ErrArg)
	}
}

func TestRandomProgramsWithManyPredicates(t *testing.T) {
	m := maker{Rand: rand.New(rand.NewSource(8)), preds: 140, vars: 1, consts: 2, terms: 2, atoms: 3}
	seen, asked := map[api.Errno]int{}, map[api.Errno]int{}
	for i := range 600 {
		m.clash = float64(i%3) / 2000
		k, f := holdBuild(t, m.program(60+m.Intn(200)), m.facts())
		seen[f.Code]++
		ls, _ := m.body()
		asked[holdQuery(t, k, ls).Code]++
	}
	wantSeen(t, "Build", seen, api.OK, api.ErrPreds, api.ErrClash)
	wantSeen(t, "Query", asked, api.OK)
}

// TestQueriesOverRandomCores: cores that no Build makes.
func TestQueriesOverRandomCores(t *testing.T) {
	m := maker{Rand: rand.New(rand.NewSource(9)), preds: 8, vars: 2, consts: 3, terms: 3, atoms: 3, loose: 0.1}
	asked := map[api.Errno]int{}
	for range 6000 {
		var k api.Core
		for i := range m.Intn(6) {
			k.Preds = append(k.Preds, api.Pred{Name: "p" + strconv.Itoa(i), Arity: i * 5 % 4})
		}
		for range 120 * m.Intn(2) {
			k.Preds = append(k.Preds, api.Pred{Name: "q" + strconv.Itoa(len(k.Preds)), Arity: m.Intn(5) - 1})
		}
		for range m.Intn(3) {
			t := m.term(nil)
			k.Consts = append(k.Consts, api.Const{Kind: t.Kind, Int: t.Int, Text: t.Text})
		}
		if m.Intn(10) == 0 {
			k.Preds = append(k.Preds, api.Pred{Name: "p" + strconv.Itoa(m.Intn(6))})
		}
		ls, _ := m.body()
		asked[holdQuery(t, k, ls).Code]++
	}
	wantSeen(t, "Query", asked, api.OK, api.ErrArg, api.ErrClash, api.ErrRange)
}

// TestOffsetsOfTexts: what parse makes of texts has true offsets, each a different one.
func TestOffsetsOfTexts(t *testing.T) {
	m := maker{Rand: rand.New(rand.NewSource(10)), preds: 5, vars: 2, consts: 3, terms: 3, atoms: 3, clash: 0.03, loose: 0.05}
	seen := map[api.Errno]int{}
	for range 3000 {
		p, f := parse.Program(print.Program(m.program(m.Intn(8))))
		given := ""
		for _, a := range m.facts() {
			given += print.Atom(a) + ". "
		}
		facts, g := parse.Facts(given)
		if f.Code != api.OK || g.Code != api.OK {
			t.Fatalf("not parsed: %v, %v", f, g)
		}
		_, fault := holdBuild(t, p, facts)
		seen[fault.Code]++
	}
	wantSeen(t, "Build", seen, api.OK, api.ErrClash, api.ErrRange)
}
