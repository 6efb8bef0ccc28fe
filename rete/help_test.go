package rete_test

import (
	"math"
	"reflect"
	"slices"
	"testing"

	"edict/api"
	"edict/plan"
	"edict/rete"
)

// As in the chapter's examples: edge is predicate 0, stop 1.
const (
	edge = 0
	stop = 1
	most = math.MaxUint64
)

// seven is id 0, a is id 1, b is id 2.
func consts() []api.Const {
	return []api.Const{{Kind: api.KInt, Int: 7}, {Kind: api.KName, Text: "a"}, {Kind: api.KName, Text: "b"}}
}

// ints is so many constants, the greatest first: so their order is that of the ids turned round.
func ints(count int) []api.Const {
	cs := make([]api.Const, count)
	for id := range cs {
		cs[id] = api.Const{Kind: api.KInt, Int: int64(-id)}
	}
	return cs
}

func v(n int) api.Slot { return api.Slot{Var: true, N: n} }

func c(n int) api.Slot { return api.Slot{N: n} }

func pat(pred int, slots ...api.Slot) api.Pattern { return api.Pattern{Pred: pred, Args: slots} }

func test(left api.Slot, op int, right api.Slot) api.Test {
	return api.Test{Op: op, Left: left, Right: right}
}

type not api.Pattern

// rule is a rule of patterns (Pos), tests and negated ones, with as many variables as they name.
func rule(conditions ...any) api.Rule {
	var made api.Rule
	for _, condition := range conditions {
		switch x := condition.(type) {
		case api.Pattern:
			made.Pos = append(made.Pos, x)
			for _, slot := range x.Args {
				if slot.Var && slot.N >= len(made.Vars) {
					made.Vars = append(made.Vars, "X")
				}
			}
		case api.Test:
			made.Tests = append(made.Tests, x)
		case not:
			made.Neg = append(made.Neg, api.Pattern(x))
		}
	}
	return made
}

// goes is the chapter's rule: p(X) :- edge(X, Y), not stop(Y).
func goes() api.Rule { return rule(pat(edge, v(0), v(1)), not(pat(stop, v(1)))) }

func row(pred int, args ...int) api.Row { return api.Row{Pred: pred, Args: args} }

func act(rule int, ids ...int) api.Act { return api.Act{Rule: rule, Subst: ids} }

func came(rule int, ids ...int) api.Change { return api.Change{Came: true, Act: act(rule, ids...)} }

func went(rule int, ids ...int) api.Change { return api.Change{Act: act(rule, ids...)} }

func compiled(t *testing.T, rules ...api.Rule) api.Plan {
	t.Helper()
	p, e := plan.Compile(rules)
	if e != api.OK {
		t.Fatalf("plan.Compile(%v) = %d", rules, e)
	}
	return p
}

func made(t *testing.T, cs []api.Const, rules ...api.Rule) *rete.Net {
	t.Helper()
	n, e := rete.New(cs, compiled(t, rules...))
	if n == nil || e != api.OK {
		t.Fatalf("New of %v = %v, %d", rules, n, e)
	}
	return n
}

func sameRow(a, b api.Row) bool { return a.Pred == b.Pred && slices.Equal(a.Args, b.Args) }

func sameAct(a, b api.Act) bool { return a.Rule == b.Rule && slices.Equal(a.Subst, b.Subst) }

func sameChange(a, b api.Change) bool { return a.Came == b.Came && sameAct(a.Act, b.Act) }

func wantNew(t *testing.T, cs []api.Const, p api.Plan, want api.Errno) {
	t.Helper()
	if n, e := rete.New(cs, p); e != want || (n == nil) != (want != api.OK) {
		t.Errorf("New of %d constants = a net %v, %d, want %d", len(cs), n != nil, e, want)
	}
}

func wantAssert(t *testing.T, n *rete.Net, limit uint64, want int, rows ...api.Row) {
	t.Helper()
	if got, e := n.Assert(limit, rows...); got != want || e != api.OK {
		t.Errorf("Assert(%d, %v) = %d, %d, want %d, OK", limit, rows, got, e, want)
	}
}

// wantRefused holds that an Assert is refused, and that all answers but Changes are as ahead of it.
func wantRefused(t *testing.T, n *rete.Net, limit uint64, want api.Errno, rows ...api.Row) {
	t.Helper()
	was := seen(n)
	if got, e := n.Assert(limit, rows...); got != 0 || e != want {
		t.Errorf("Assert(%d, %v) = %d, %d, want 0, %d", limit, rows, got, e, want)
	}
	if now := seen(n); !reflect.DeepEqual(now, was) {
		t.Errorf("behind a refused Assert(%d, %v): %v, want %v", limit, rows, now, was)
	}
}

// seen is all that a net answers without being changed.
func seen(n *rete.Net) []any {
	all := []any{n.Mark(), n.Live(), n.Rows(), n.Conflict()}
	for node := 0; ; node++ {
		tokens, e := n.Tokens(node)
		if e != api.OK {
			return all
		}
		all = append(all, tokens)
	}
}

func wantUndo(t *testing.T, n *rete.Net, mark int, want api.Errno) {
	t.Helper()
	if got := n.Undo(mark); got != want {
		t.Errorf("Undo(%d) = %d, want %d", mark, got, want)
	}
}

func wantRows(t *testing.T, n *rete.Net, want ...api.Row) {
	t.Helper()
	if got := n.Rows(); !slices.EqualFunc(got, want, sameRow) {
		t.Errorf("Rows = %v, want %v", got, want)
	}
	if got := n.Mark(); got != len(want) {
		t.Errorf("Mark = %d, want %d", got, len(want))
	}
}

func wantLive(t *testing.T, n *rete.Net, want uint64) {
	t.Helper()
	if got := n.Live(); got != want {
		t.Errorf("Live = %d, want %d", got, want)
	}
}

func wantTokens(t *testing.T, n *rete.Net, node int, want ...[]int) {
	t.Helper()
	if got, e := n.Tokens(node); e != api.OK || !slices.EqualFunc(got, want, slices.Equal[[]int]) {
		t.Errorf("Tokens(%d) = %v, %d, want %v", node, got, e, want)
	}
}

func wantNoNode(t *testing.T, n *rete.Net, node int) {
	t.Helper()
	if got, e := n.Tokens(node); e != api.ErrArg || len(got) > 0 {
		t.Errorf("Tokens(%d) = %v, %d, want ErrArg", node, got, e)
	}
}

func wantConflict(t *testing.T, n *rete.Net, want ...api.Act) {
	t.Helper()
	if got := n.Conflict(); !slices.EqualFunc(got, want, sameAct) {
		t.Errorf("Conflict = %v, want %v", got, want)
	}
}

// wantChanges holds what Changes tells, and that a second call tells nothing.
func wantChanges(t *testing.T, n *rete.Net, want ...api.Change) {
	t.Helper()
	if got := n.Changes(); !slices.EqualFunc(got, want, sameChange) {
		t.Errorf("Changes = %v, want %v", got, want)
	}
	if got := n.Changes(); len(got) > 0 {
		t.Errorf("Changes right behind Changes = %v, want none", got)
	}
}
