package match_test

import (
	"cmp"
	"fmt"
	"math/rand"
	"slices"
	"strings"
	"testing"

	"edict/api"
	"edict/match"
	"edict/store"
	"edict/sym"
)

// What match answers, held against the chapter's words: a model that goes through all substitutions there are.

func x(n int) api.Slot { return api.Slot{Var: true, N: n} }

func c(n int) api.Slot { return api.Slot{N: n} }

func pat(pred int, args ...api.Slot) api.Pattern { return api.Pattern{Pred: pred, Args: args} }

func row(pred int, args ...int) api.Row { return api.Row{Pred: pred, Args: args} }

func number(n int64) api.Const { return api.Const{Kind: api.KInt, Int: n} }

func name(s string) api.Const { return api.Const{Kind: api.KName, Text: s} }

func text(s string) api.Const { return api.Const{Kind: api.KText, Text: s} }

// rising is constants, each ahead of the next in sym's order.
var rising = []api.Const{
	number(-9223372036854775808), number(-3), number(0), number(2), number(12), number(9223372036854775807),
	name("a"), name("aB"), name("a_"), name("ab"), name("b"), text(""), text("A"), text("a"), text("not"), text("\xff"),
}

// wrong is what is no constant.
var wrong = []api.Const{
	{}, {Kind: api.KVar, Text: "X"}, {Kind: api.KInt, Int: 1, Text: "a"}, {Kind: api.KName}, name("not"), name("A"),
	{Kind: api.KName, Int: 1, Text: "a"}, name(strings.Repeat("a", 65)), text(strings.Repeat("a", 256)), {Kind: -1}, {Kind: 5},
}

// task is what Prefix is asked.
type task struct {
	arities []int
	rows    []api.Row
	cs      []api.Const
	rule    api.Rule
	k       int
}

func (w task) String() string {
	return fmt.Sprintf("rows %v\nconstants %+v\nPos %v\nTests %v\nNeg %v\nVars %q\nk %d", w.rows, w.cs, w.rule.Pos, w.rule.Tests, w.rule.Neg, w.rule.Vars, w.k)
}

func (w task) store() *store.Store {
	s, _ := store.New(w.arities)
	s.Add(w.rows...)
	return s
}

func (w task) chain() int { return len(w.rule.Pos) + len(w.rule.Tests) + len(w.rule.Neg) }

// firsts is the variables of patterns, each once, as they first stand.
func firsts(ps []api.Pattern) (vars []int) {
	for _, p := range ps {
		for _, slot := range p.Args {
			if slot.Var && !slices.Contains(vars, slot.N) {
				vars = append(vars, slot.N)
			}
		}
	}
	return vars
}

func (w task) ruleFit() bool {
	vars := len(w.rule.Vars)
	if w.chain() > 16 || vars > 16 {
		return false
	}
	var slots []api.Slot
	for _, p := range slices.Concat(w.rule.Pos, w.rule.Neg) {
		if p.Pred < 0 || len(p.Args) > 8 {
			return false
		}
		slots = append(slots, p.Args...)
	}
	for _, t := range w.rule.Tests {
		if !slices.Contains([]int{1, 2, 3, 4, 5, 6}, t.Op) {
			return false
		}
		slots = append(slots, t.Left, t.Right)
	}
	for _, slot := range slots {
		if slot.N < 0 || slot.Var && slot.N > vars-1 || !slot.Var && slot.N > len(w.cs)-1 {
			return false
		}
	}
	var want []int
	for n := range vars {
		want = append(want, n)
	}
	return slices.Equal(firsts(w.rule.Pos), want)
}

func (w task) constsFit() bool {
	for i, c := range w.cs {
		if !sym.Valid(c) || slices.Index(w.cs, c) != i {
			return false
		}
	}
	return len(w.cs) <= 65536
}

func (w task) storeFit() bool {
	for _, r := range w.rows {
		if len(r.Args) > 0 && slices.Max(r.Args) >= len(w.cs) {
			return false
		}
	}
	return true
}

func order(a, b api.Const) int {
	return cmp.Or(cmp.Compare(a.Kind, b.Kind), cmp.Compare(a.Int, b.Int), strings.Compare(a.Text, b.Text))
}

func ordered(op int, o int) bool {
	return slices.Contains([][]int{{0}, {-1, 1}, {-1}, {-1, 0}, {1}, {0, 1}}[op-1], o)
}

func under(slot api.Slot, sub []int) int {
	if slot.Var {
		return sub[slot.N]
	}
	return slot.N
}

func (w task) isRow(p api.Pattern, sub []int) bool {
	return slices.ContainsFunc(w.rows, func(r api.Row) bool {
		return r.Pred == p.Pred && slices.EqualFunc(p.Args, r.Args, func(slot api.Slot, id int) bool { return under(slot, sub) == id })
	})
}

func (w task) satisfies(sub []int) bool {
	for i := range w.k {
		tests := i - len(w.rule.Pos)
		negs := tests - len(w.rule.Tests)
		switch {
		case negs >= 0:
			if w.isRow(w.rule.Neg[negs], sub) {
				return false
			}
		case tests >= 0:
			t := w.rule.Tests[tests]
			if !ordered(t.Op, order(w.cs[under(t.Left, sub)], w.cs[under(t.Right, sub)])) {
				return false
			}
		default:
			if !w.isRow(w.rule.Pos[i], sub) {
				return false
			}
		}
	}
	return true
}

// answer is what Prefix must answer.
func (w task) answer() ([][]int, api.Errno) {
	switch {
	case w.k < 0 || w.k > w.chain() || !w.ruleFit():
		return nil, api.ErrArg
	case !w.constsFit():
		return nil, api.ErrConst
	case !w.storeFit():
		return nil, api.ErrArg
	}
	ids := make([]int, len(w.cs))
	for id := range ids {
		ids[id] = id
	}
	slices.SortFunc(ids, func(a, b int) int { return order(w.cs[a], w.cs[b]) })
	var subs [][]int
	width := len(firsts(w.rule.Pos[:min(w.k, len(w.rule.Pos))]))
	for _, sub := range lists(width, ids...) { // the ids are sorted, so the lists are
		if w.satisfies(sub) {
			subs = append(subs, sub)
		}
	}
	return subs, api.OK
}

// lists is all lists of length n of these elements, in the order in which the elements are given.
func lists[T any](n int, of ...T) [][]T {
	all := [][]T{{}}
	for range n {
		var longer [][]T
		for _, list := range all {
			for _, e := range of {
				longer = append(longer, append(slices.Clone(list), e))
			}
		}
		all = longer
	}
	return all
}

// upTo is all lists of these elements with at most n.
func upTo[T any](n int, of ...T) (all [][]T) {
	for length := range n + 1 {
		all = append(all, lists(length, of...)...)
	}
	return all
}

func sameLists(a, b [][]int) bool { return slices.EqualFunc(a, b, slices.Equal[[]int]) }

// hold asks Prefix, All and Each, and holds them against the model.
func hold(t *testing.T, w task) {
	t.Helper()
	s := w.store()
	want, wantE := w.answer()
	if got, e := match.Prefix(s, w.cs, w.rule, w.k); e != wantE || !sameLists(got, want) {
		t.Fatalf("%v\nPrefix = %v, %d\nwant %v, %d", w, got, e, want, wantE)
	}
	w.k = w.chain()
	want, wantE = w.answer()
	if got, e := match.All(s, w.cs, w.rule); e != wantE || !sameLists(got, want) {
		t.Fatalf("%v\nAll = %v, %d\nwant %v, %d", w, got, e, want, wantE)
	}
	for stop := range len(want) + 2 {
		var given [][]int
		e := match.Each(s, w.cs, w.rule, func(sub []int) bool {
			given = append(given, slices.Clone(sub))
			return len(given) != stop
		})
		wanted := want
		if stop > 0 {
			wanted = want[:min(stop, len(want))]
		}
		if e != wantE || !sameLists(given, wanted) {
			t.Fatalf("%v\nEach up to call %d gives %v, %d\nwant %v, %d", w, stop, given, e, wanted, wantE)
		}
	}
}

// P6.1

func TestCompareOfAll(t *testing.T) {
	for op := -2; op <= 9; op++ {
		for i, a := range slices.Concat(rising, wrong) {
			for j, b := range slices.Concat(rising, wrong) {
				var want bool
				var wantE api.Errno
				switch {
				case op < 1 || op > 6:
					wantE = api.ErrArg
				case i >= len(rising) || j >= len(rising):
					wantE = api.ErrConst
				default:
					want = ordered(op, cmp.Compare(i, j))
				}
				if got, e := match.Compare(op, a, b); got != want || e != wantE {
					t.Errorf("Compare(%d, %+v, %+v) = %v, %d, want %v, %d", op, a, b, got, e, want, wantE)
				}
			}
		}
	}
}

// P6.2

// extended goes through all lists of the right length, the ones that bind less first, and takes the first that will do.
func extended(p api.Pattern, args []int, sub []int) ([]int, bool) {
	length := len(sub)
	for _, slot := range p.Args {
		if slot.N < 0 {
			return nil, false
		}
		if slot.Var {
			length = max(length, slot.N+1)
		}
	}
	for _, list := range lists(length, -1, 0, 1, 2) {
		agrees := true
		for n, id := range sub {
			agrees = agrees && (id < 0 || list[n] == id)
		}
		if agrees && slices.EqualFunc(p.Args, args, func(slot api.Slot, id int) bool { return id >= 0 && under(slot, list) == id }) {
			return list, true
		}
	}
	return nil, false
}

func TestExtendOfAll(t *testing.T) {
	subs := slices.Concat(upTo(2, -2, -1, 0, 1), lists(3, -7, 0, 1))
	for _, slots := range upTo(2, x(-1), x(0), x(1), x(2), c(-1), c(0), c(1)) {
		for _, args := range upTo(2, -1, 0, 1) {
			for _, sub := range subs {
				p := pat(len(sub)-1, slots...)
				want, wantOk := extended(p, args, sub)
				if got, ok := match.Extend(p, args, sub); ok != wantOk || !slices.Equal(got, want) {
					t.Fatalf("Extend(%v, %v, %v) = %v, %v, want %v, %v", p, args, sub, got, ok, want, wantOk)
				}
			}
		}
	}
	for _, slots := range lists(3, x(0), x(1), c(0)) {
		for _, args := range lists(3, 0, 1) {
			for _, sub := range upTo(2, -1, 0, 1) {
				p := pat(0, slots...)
				want, wantOk := extended(p, args, sub)
				if got, ok := match.Extend(p, args, sub); ok != wantOk || !slices.Equal(got, want) {
					t.Fatalf("Extend(%v, %v, %v) = %v, %v, want %v, %v", p, args, sub, got, ok, want, wantOk)
				}
			}
		}
	}
}

// P6.3

func TestGroundOfAll(t *testing.T) {
	for _, slots := range upTo(3, x(-1), x(0), x(1), x(2), c(-1), c(0), c(5)) {
		for _, sub := range upTo(3, -2, -1, 0, 7) {
			want, wantOk := []int{}, true
			for _, slot := range slots {
				if slot.N < 0 || slot.Var && (slot.N >= len(sub) || sub[slot.N] < 0) {
					want, wantOk = nil, false
					break
				}
				want = append(want, under(slot, sub))
			}
			if got, ok := match.Ground(pat(-1, slots...), sub); ok != wantOk || !slices.Equal(got, want) {
				t.Fatalf("Ground(%v, %v) = %v, %v, want %v, %v", slots, sub, got, ok, want, wantOk)
			}
		}
	}
}

// P6.4

func TestHoldsOfAll(t *testing.T) {
	sides := []api.Slot{x(-1), x(0), x(1), x(2), c(-1), c(0), c(1), c(2), c(3), c(4)}
	all := []api.Const{text("a"), number(2), name("not"), name("a")}
	for length := range len(all) + 1 {
		cs := all[:length]
		for _, sub := range upTo(2, -2, -1, 0, 1, 2, 3, 4) {
			for _, left := range sides {
				for _, right := range sides {
					for op := range 8 {
						w := api.Test{Op: op, Left: left, Right: right}
						want, wantE := modelHolds(cs, w, sub)
						if got, e := match.Holds(cs, w, sub); got != want || e != wantE {
							t.Fatalf("Holds(%+v, %v, %v) = %v, %d, want %v, %d", cs, w, sub, got, e, want, wantE)
						}
					}
				}
			}
		}
	}
}

func modelHolds(cs []api.Const, w api.Test, sub []int) (bool, api.Errno) {
	var both []api.Const
	for _, side := range []api.Slot{w.Left, w.Right} {
		if side.N < 0 || side.Var && (side.N >= len(sub) || sub[side.N] < 0) || under(side, sub) >= len(cs) {
			return false, api.ErrArg
		}
		both = append(both, cs[under(side, sub)])
	}
	switch {
	case w.Op < 1 || w.Op > 6:
		return false, api.ErrArg
	case slices.Contains(both, name("not")):
		return false, api.ErrConst
	}
	return ordered(w.Op, order(both[0], both[1])), api.OK
}

// P6.5, P6.6

// All bodies of at most two patterns and one more condition, over all stores of some rows.
func TestSmallBodies(t *testing.T) {
	cs := []api.Const{name("b"), number(7)}
	slots := []api.Slot{x(0), x(1), c(0), c(1)}
	var ps []api.Pattern
	for _, list := range upTo(2, slots...) {
		ps = append(ps, pat(len(list), list...))
	}
	more := []api.Rule{
		{}, {Neg: []api.Pattern{pat(1, x(0))}}, {Neg: []api.Pattern{pat(2, x(0), x(0))}}, {Neg: []api.Pattern{pat(0)}}, {Neg: []api.Pattern{pat(1, c(1))}},
		{Tests: []api.Test{{Op: api.OpLt, Left: x(0), Right: x(1)}}}, {Tests: []api.Test{{Op: api.OpNe, Left: c(1), Right: x(0)}}}, {Tests: []api.Test{{Op: api.OpGe, Left: c(0), Right: c(1)}}},
	}
	stores := [][]api.Row{nil, {row(0)}, {row(2, 1, 1), row(1, 0)}, {row(1, 1), row(1, 0), row(2, 0, 1), row(2, 1, 0), row(2, 0, 0), row(0)}, {row(2, 1, 0), row(1, 0), row(2, 0, 1)}}
	for _, pos := range upTo(2, ps...) {
		for _, r := range more {
			r.Pos, r.Vars = pos, make([]string, len(firsts(pos)))
			for _, rows := range stores {
				w := task{arities: []int{0, 1, 2}, rows: rows, cs: cs, rule: r}
				for w.k = range w.chain() + 1 {
					hold(t, w)
				}
			}
		}
	}
}

var arities = []int{2, 0, 1, 3, 1}

func randomConsts(r *rand.Rand) []api.Const {
	var cs []api.Const
	for _, i := range r.Perm(len(rising))[:min(r.Intn(7), 4)] {
		cs = append(cs, rising[i])
	}
	return cs
}

func randomSlot(r *rand.Rand, vars int, consts int) api.Slot {
	if vars > 0 && r.Intn(3) > 0 || consts == 0 {
		return x(r.Intn(max(vars, 1)))
	}
	return c(r.Intn(consts))
}

func randomPred(r *rand.Rand) (pred int, arity int) {
	pred = r.Intn(len(arities))
	switch r.Intn(20) {
	case 0:
		return len(arities) + pred, r.Intn(4)
	case 1:
		return pred, r.Intn(9)
	}
	return pred, arities[pred]
}

// randomRule is a fit rule with at most five variables.
func randomRule(r *rand.Rand, consts int) (rule api.Rule) {
	vars := 0
	for range r.Intn(4) {
		pred, arity := randomPred(r)
		p := pat(pred)
		for range arity {
			slot := randomSlot(r, vars, consts)
			if vars < 5 && (r.Intn(5) > 1 || slot.Var && vars == 0) {
				slot = x(vars)
				vars++
			}
			p.Args = append(p.Args, slot)
		}
		rule.Pos = append(rule.Pos, p)
	}
	rule.Vars = make([]string, vars)
	if vars+consts == 0 {
		return rule
	}
	for range r.Intn(3) {
		rule.Tests = append(rule.Tests, api.Test{Op: 1 + r.Intn(6), Left: randomSlot(r, vars, consts), Right: randomSlot(r, vars, consts)})
	}
	for range r.Intn(3) {
		pred, arity := randomPred(r)
		p := pat(pred)
		for range arity {
			p.Args = append(p.Args, randomSlot(r, vars, consts))
		}
		rule.Neg = append(rule.Neg, p)
	}
	return rule
}

func randomTask(r *rand.Rand) task {
	w := task{arities: arities, cs: randomConsts(r)}
	for range r.Intn(40) {
		pred := r.Intn(len(arities))
		args := make([]int, arities[pred])
		for place := range args {
			args[place] = r.Intn(max(len(w.cs), 1))
		}
		if len(args) == 0 || len(w.cs) > 0 {
			w.rows = append(w.rows, row(pred, args...))
		}
	}
	w.rule = randomRule(r, len(w.cs))
	w.k = r.Intn(w.chain() + 1)
	return w
}

// breakOne makes something wrong of it, or at least something else.
func breakOne(r *rand.Rand, w *task) {
	patterns := slices.Concat(w.rule.Pos, w.rule.Neg)
	switch r.Intn(9) {
	case 0:
		w.k = []int{-1, w.chain() + 1}[r.Intn(2)]
	case 1:
		w.rule.Vars = make([]string, r.Intn(18))
	case 2:
		w.cs = append(w.cs, wrong[r.Intn(len(wrong))])
	case 3:
		w.cs = append(w.cs, rising[r.Intn(len(rising))])
	case 4:
		w.rows = append(w.rows, row(2, len(w.cs)+r.Intn(2)))
	case 5:
		if len(w.rule.Tests) > 0 {
			w.rule.Tests[0].Op = r.Intn(12) - 2
		}
	case 6:
		if len(w.rule.Tests) > 0 {
			last := &w.rule.Tests[len(w.rule.Tests)-1]
			*[]*api.Slot{&last.Left, &last.Right}[r.Intn(2)] = api.Slot{Var: r.Intn(2) == 0, N: r.Intn(8) - 1}
		}
	default:
		if len(patterns) == 0 {
			return
		}
		p := patterns[r.Intn(len(patterns))]
		if len(p.Args) > 0 {
			p.Args[r.Intn(len(p.Args))] = api.Slot{Var: r.Intn(2) == 0, N: r.Intn(8) - 1}
		}
	}
}

func TestRandomBodies(t *testing.T) {
	r := rand.New(rand.NewSource(6))
	told := 0
	for range 30000 {
		w := randomTask(r)
		hold(t, w)
		if subs, _ := w.answer(); len(subs) > 1 {
			told++
		}
	}
	if told < 2000 {
		t.Errorf("%d of the bodies have more than one match", told)
	}
}

func TestRandomBrokenBodies(t *testing.T) {
	r := rand.New(rand.NewSource(66))
	var seen [api.ErrConst + 1]int
	for range 30000 {
		w := randomTask(r)
		for range 1 + r.Intn(3) {
			breakOne(r, &w)
		}
		if len(w.rule.Vars) > 5 && w.ruleFit() {
			continue
		}
		hold(t, w)
		_, e := w.answer()
		seen[e]++
	}
	if seen[api.OK] < 500 || seen[api.ErrArg] < 500 || seen[api.ErrConst] < 500 {
		t.Errorf("errors seen: %v", seen)
	}
}

// The order in which rows came has no say.
func TestRowsInAnotherOrder(t *testing.T) {
	r := rand.New(rand.NewSource(666))
	for range 1000 {
		w := randomTask(r)
		one, _ := match.All(w.store(), w.cs, w.rule)
		r.Shuffle(len(w.rows), func(i, j int) { w.rows[i], w.rows[j] = w.rows[j], w.rows[i] })
		other, _ := match.All(w.store(), w.cs, w.rule)
		if !sameLists(one, other) {
			t.Fatalf("%v\n%v, in another order %v", w, one, other)
		}
	}
}
