package rete_test

import (
	"cmp"
	"fmt"
	"math/rand"
	"slices"
	"testing"

	"edict/alpha"
	"edict/api"
	"edict/bound"
	"edict/match"
	"edict/plan"
	"edict/rete"
	"edict/store"
	"edict/sym"
)

// A net held against the chapter's words: a plan, a list of rows, and all tokens made anew each time.

type plain struct {
	cs   []api.Const
	plan api.Plan
	rows []api.Row
	told []api.Act // the conflict set when Changes was last called
}

// fitting tells whether a row has a node's shape and holds what its links ask of a token.
func (m *plain) fitting(n api.Node, token []int, r api.Row) bool {
	if !alpha.Fits(m.plan.Alphas[n.Alpha], r.Pred, r.Args) {
		return false
	}
	return !slices.ContainsFunc(n.Links, func(l api.Link) bool { return r.Args[l.Place] != token[l.Var] })
}

// tokens is those of all nodes, by their numbers.
func (m *plain) tokens() [][][]int {
	all := [][][]int{{{}}}
	for _, n := range m.plan.Nodes[1:] {
		own := [][]int{}
		for _, token := range all[n.Parent] {
			own = append(own, m.below(n, token)...)
		}
		all = append(all, own)
	}
	for _, list := range all {
		slices.SortFunc(list, m.compare)
	}
	return all
}

// below is what comes of a token at a node.
func (m *plain) below(n api.Node, token []int) (made [][]int) {
	switch n.Kind {
	case api.NJoin:
		for _, r := range m.rows {
			if m.fitting(n, token, r) {
				longer := slices.Clone(token)
				for _, place := range n.New {
					longer = append(longer, r.Args[place])
				}
				made = append(made, longer)
			}
		}
	case api.NTest:
		if holds, _ := match.Holds(m.cs, n.Test, token); holds {
			made = append(made, token)
		}
	case api.NNeg:
		if !slices.ContainsFunc(m.rows, func(r api.Row) bool { return m.fitting(n, token, r) }) {
			made = append(made, token)
		}
	}
	return made
}

func (m *plain) compare(a, b []int) int {
	return slices.CompareFunc(a, b, func(x, y int) int { return sym.Compare(m.cs[x], m.cs[y]) })
}

func (m *plain) compareActs(a, b api.Act) int {
	return cmp.Or(cmp.Compare(a.Rule, b.Rule), m.compare(a.Subst, b.Subst))
}

func live(tokens [][][]int) (count uint64) {
	for _, list := range tokens[1:] {
		count += uint64(len(list))
	}
	return count
}

func (m *plain) conflict(tokens [][][]int) (acts []api.Act) {
	for rule, end := range m.plan.Ends {
		for _, token := range tokens[end] {
			acts = append(acts, act(rule, token...))
		}
	}
	return acts
}

func (m *plain) has(r api.Row) bool {
	return slices.ContainsFunc(m.rows, func(other api.Row) bool { return sameRow(other, r) })
}

func (m *plain) assert(limit uint64, rows []api.Row) (int, api.Errno) {
	was := m.rows
	m.rows = slices.Clone(was)
	for _, r := range rows {
		if r.Pred < 0 || len(r.Args) > api.MaxArity || slices.ContainsFunc(r.Args, func(id int) bool { return id < 0 || id >= len(m.cs) }) {
			m.rows = was
			return 0, api.ErrArg
		}
		if !m.has(r) {
			m.rows = append(m.rows, r)
		}
	}
	if live(m.tokens()) > limit {
		m.rows = was
		return 0, api.ErrCap
	}
	return len(m.rows) - len(was), api.OK
}

func (m *plain) undo(mark int) api.Errno {
	if mark < 0 || mark > len(m.rows) {
		return api.ErrArg
	}
	m.rows = m.rows[:mark]
	return api.OK
}

func (m *plain) changes() (changes []api.Change) {
	now := m.conflict(m.tokens())
	in := func(acts []api.Act, a api.Act) bool {
		return slices.ContainsFunc(acts, func(b api.Act) bool { return sameAct(a, b) })
	}
	for _, a := range now {
		if !in(m.told, a) {
			changes = append(changes, api.Change{Came: true, Act: a})
		}
	}
	for _, a := range m.told {
		if !in(now, a) {
			changes = append(changes, api.Change{Act: a})
		}
	}
	m.told = now
	slices.SortFunc(changes, func(a, b api.Change) int { return m.compareActs(a.Act, b.Act) })
	return changes
}

// wild makes rules, rows and calls.
type wild struct {
	*rand.Rand
	consts int
}

// arity is that of a predicate in rules; rows may have others.
func arity(pred int) int { return []int{2, 1, 2, 0, 3}[pred] }

func (w wild) constant() api.Slot { return c(w.Intn(w.consts)) }

// slot is a variable of so many, or a constant.
func (w wild) slot(width int) api.Slot {
	if width == 0 || w.consts > 0 && w.Intn(5) == 0 {
		return w.constant()
	}
	return v(w.Intn(width))
}

// pattern has variables that are bound, and new ones where it may.
func (w wild) pattern(width *int, fresh bool) (api.Pattern, bool) {
	p := api.Pattern{Pred: w.Intn(5)}
	for range arity(p.Pred) {
		switch {
		case fresh && *width < 6 && w.Intn(2) == 0:
			p.Args = append(p.Args, v(*width))
			*width++
		case *width > 0 || w.consts > 0:
			p.Args = append(p.Args, w.slot(*width))
		default:
			return p, false
		}
	}
	return p, true
}

// rule goes on from the positive patterns that another begins with.
func (w wild) rule(from []api.Pattern) api.Rule {
	var r api.Rule
	width := 0
	for _, p := range from[:w.Intn(len(from)+1)] {
		r.Pos = append(r.Pos, p)
		for _, slot := range p.Args {
			if slot.Var {
				width = max(width, slot.N+1)
			}
		}
	}
	for range w.Intn(3) {
		if p, may := w.pattern(&width, true); may {
			r.Pos = append(r.Pos, p)
		}
	}
	for range w.Intn(2) * w.Intn(3) {
		if width > 0 || w.consts > 0 {
			r.Tests = append(r.Tests, test(w.slot(width), 1+w.Intn(6), w.slot(width)))
		}
	}
	for range w.Intn(2) * w.Intn(4) {
		if p, may := w.pattern(&width, false); may {
			r.Neg = append(r.Neg, p)
		}
	}
	r.Vars = slices.Repeat([]string{"X"}, width)
	return r
}

func (w wild) rules() (rules []api.Rule) {
	for range 1 + w.Intn(5) {
		var from []api.Pattern
		if len(rules) > 0 && w.Intn(3) > 0 {
			from = rules[w.Intn(len(rules))].Pos
		}
		rules = append(rules, w.rule(from))
	}
	return rules
}

// row is one that may be, as a rule.
func (w wild) row() api.Row {
	pred := w.Intn(5)
	r := api.Row{Pred: pred}
	places := arity(pred)
	if w.Intn(20) == 0 {
		places = w.Intn(api.MaxArity + 1)
	}
	for range places {
		r.Args = append(r.Args, w.Intn(max(w.consts, 1)))
	}
	switch w.Intn(150) {
	case 0:
		r.Pred = -1 - w.Intn(3)
	case 1:
		r.Args = append(r.Args, w.consts)
	case 2:
		r.Args = append(r.Args, -1)
	case 3:
		r.Args = make([]int, api.MaxArity+1)
	}
	return r
}

func (w wild) limit(now uint64) uint64 {
	switch w.Intn(6) {
	case 0:
		return uint64(w.Intn(30))
	case 1, 2:
		return now + uint64(w.Intn(12)) - min(now, uint64(w.Intn(4)))
	}
	return 300
}

// agree holds all that a net answers without being changed against the model.
func agree(t *testing.T, n *rete.Net, m *plain) bool {
	t.Helper()
	tokens := m.tokens()
	wantRows(t, n, m.rows...)
	wantLive(t, n, live(tokens))
	wantConflict(t, n, m.conflict(tokens)...)
	for node, list := range tokens {
		wantTokens(t, n, node, list...)
	}
	wantNoNode(t, n, len(tokens))
	return !t.Failed()
}

func TestScripts(t *testing.T) {
	for seed := range int64(1200) {
		w := wild{Rand: rand.New(rand.NewSource(seed))}
		w.consts = w.Intn(5)
		cs := mixed(w.consts)
		rules := w.rules()
		n := made(t, cs, rules...)
		m := &plain{cs: cs, plan: compiled(t, rules...)}
		for step := range 40 {
			script(t, w, n, m)
			if !agree(t, n, m) {
				t.Fatalf("seed %d, step %d, rules %v", seed, step, rules)
			}
		}
	}
}

// script makes one call, of both.
func script(t *testing.T, w wild, n *rete.Net, m *plain) {
	t.Helper()
	switch w.Intn(6) {
	case 0:
		mark := len(m.rows) - w.Intn(4)
		if w.Intn(10) == 0 {
			mark = w.Intn(len(m.rows)+3) - 1
		}
		wantUndo(t, n, mark, m.undo(mark))
	case 1:
		wantChanges(t, n, m.changes()...)
	default:
		var rows []api.Row
		for range w.Intn(5) {
			rows = append(rows, w.row())
		}
		limit := w.limit(live(m.tokens()))
		got, e := n.Assert(limit, rows...)
		if want, f := m.assert(limit, rows); got != want || e != f {
			t.Errorf("Assert(%d, %v) = %d, %d, want %d, %d", limit, rows, got, e, want, f)
		}
	}
}

// mixed is up to four constants whose order is not that of their ids.
func mixed(count int) []api.Const {
	return []api.Const{{Kind: api.KName, Text: "b"}, {Kind: api.KInt, Int: 3}, {Kind: api.KText, Text: "a"}, {Kind: api.KName, Text: "a"}, {Kind: api.KInt, Int: -3}}[:count]
}

// P12.6: what match finds, and the bound.
func TestAgainstMatch(t *testing.T) {
	for seed := range int64(600) {
		w := wild{Rand: rand.New(rand.NewSource(seed)), consts: 1 + int(seed)%4}
		cs := mixed(w.consts)
		rules := w.rules()
		p := compiled(t, rules...)
		n := made(t, cs, rules...)
		s, _ := store.New([]int{2, 1, 2, 0, 3})
		for range 12 {
			r := w.row()
			// A net takes rows of any length, a store does not; but of any ids.
			got, _ := n.Assert(most, r)
			if came, _ := s.Add(r); got > came {
				n.Undo(n.Mark() - 1)
			} else if came > got {
				s.Undo(s.Len() - 1)
			}
		}
		if rest := s.Len() * 2 / 3; w.Intn(2) == 0 {
			s.Undo(rest)
			n.Undo(rest)
		}
		if most := bound.Tokens(len(cs), p); n.Live() > most {
			t.Errorf("seed %d: %d live tokens, the bound is %d", seed, n.Live(), most)
		}
		var acts []api.Act
		for num, r := range rules {
			chain, _ := plan.Chain(p, num)
			for k, node := range append([]int{0}, chain...) {
				want, e := match.Prefix(s, cs, r, k)
				if e != api.OK {
					t.Fatalf("seed %d: Prefix(%v, %d) = %d", seed, r, k, e)
				}
				wantTokens(t, n, node, want...)
			}
			subs, _ := match.All(s, cs, r)
			for _, sub := range subs {
				acts = append(acts, act(num, sub...))
			}
		}
		wantConflict(t, n, acts...)
		if t.Failed() {
			t.Fatalf("seed %d, rules %v", seed, rules)
		}
	}
}

// The bound is reached where all rows are there.
func TestBoundIsReached(t *testing.T) {
	for count := range 4 {
		rules := []api.Rule{walk(3), cross(2, 1), rule(pat(edge, v(0), v(1)), test(v(0), api.OpLe, c(0)), not(pat(stop, v(1)))), rule(not(pat(stop)))}
		if count == 0 {
			rules = []api.Rule{walk(3), cross(2, 1), rule(not(pat(stop)))}
		}
		n := made(t, ints(count), rules...)
		wantAssert(t, n, most, count*count+count, append(all(edge, 2, count), all(edge, 1, count)...)...)
		wantLive(t, n, bound.Tokens(count, compiled(t, rules...)))
	}
}

// Whatever order rows come in, and however many at once, the net is the same.
func TestOrderOfRowsIsNoMatter(t *testing.T) {
	for seed := range int64(300) {
		w := wild{Rand: rand.New(rand.NewSource(seed)), consts: 3}
		rules := w.rules()
		var rows []api.Row
		for range 14 {
			if r := w.row(); r.Pred >= 0 && len(r.Args) <= api.MaxArity && !slices.ContainsFunc(r.Args, func(id int) bool { return id < 0 || id > 2 }) {
				rows = append(rows, r)
			}
		}
		one, two := made(t, mixed(3), rules...), made(t, mixed(3), rules...)
		one.Assert(most, rows...)
		w.Shuffle(len(rows), func(i, j int) { rows[i], rows[j] = rows[j], rows[i] })
		for _, r := range rows {
			two.Assert(most, r)
			if w.Intn(3) == 0 {
				two.Assert(most, w.row())
				two.Undo(two.Mark() - 1)
				two.Assert(most, r)
			}
		}
		slices.Reverse(rows)
		two.Assert(most, rows...)
		if a, b := fmt.Sprint(seen(one)[3:]...), fmt.Sprint(seen(two)[3:]...); a != b || one.Mark() != two.Mark() || one.Live() != two.Live() {
			t.Fatalf("seed %d: %s and %s", seed, a, b)
		}
		if a, b := fmt.Sprint(one.Changes()), fmt.Sprint(two.Changes()); a != b {
			t.Fatalf("seed %d: changes %s and %s", seed, a, b)
		}
	}
}
