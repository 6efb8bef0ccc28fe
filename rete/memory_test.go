package rete_test

import (
	"fmt"
	"reflect"
	"slices"
	"testing"

	"edict/api"
	"edict/rete"
)

// DOC.md's P2

// roomy is a list with spare room behind it that is filled.
func roomy[T any](list []T, spare T) []T {
	return append(slices.Clone(list), spare, spare, spare)[:len(list)]
}

// whole is a list with all its spare room.
func whole[T any](list []T) []T { return list[:cap(list)] }

// scribble writes over all of a list, its spare room too.
func scribble(list []int) {
	for place := range whole(list) {
		whole(list)[place] = 2
	}
}

// mixedRules has nodes of all kinds, links and new places.
func mixedRules() []api.Rule {
	return []api.Rule{goes(), rule(pat(edge, v(0), v(1)), pat(edge, v(1), v(2)), pat(edge, c(1), v(3)), test(v(0), api.OpNe, c(2)), not(pat(stop, v(3))), not(pat(edge, v(0), v(3)))), rule(not(pat(stop, c(0))))}
}

func roomyPlan(t *testing.T) api.Plan {
	t.Helper()
	p := compiled(t, mixedRules()...)
	for num := range p.Alphas {
		p.Alphas[num].Cells = roomy(p.Alphas[num].Cells, 9)
	}
	for num := range p.Nodes {
		p.Nodes[num].Links = roomy(p.Nodes[num].Links, api.Link{Place: 9, Var: 9})
		p.Nodes[num].New = roomy(p.Nodes[num].New, 9)
	}
	p.Alphas, p.Nodes, p.Ends = roomy(p.Alphas, api.Shape{Pred: 9}), roomy(p.Nodes, api.Node{Kind: 9}), roomy(p.Ends, 9)
	return p
}

// wholePlan is all that a plan lies in, as text.
func wholePlan(p api.Plan) string {
	text := fmt.Sprint(whole(p.Ends))
	for _, s := range whole(p.Alphas) {
		text += fmt.Sprint(s.Pred, whole(s.Cells))
	}
	for _, n := range whole(p.Nodes) {
		text += fmt.Sprint(n, whole(n.Links), whole(n.New))
	}
	return text
}

func TestPlanAndConstantsAreNeitherChangedNorKept(t *testing.T) {
	p, cs := roomyPlan(t), roomy(consts(), api.Const{})
	wasPlan, wasConsts := wholePlan(p), slices.Clone(whole(cs))
	n, e := rete.New(cs, p)
	if e != api.OK {
		t.Fatal(e)
	}
	rows := append(all(edge, 2, 3), row(stop, 2))
	wantAssert(t, n, most, len(rows), rows...)
	if wholePlan(p) != wasPlan || !slices.Equal(whole(cs), wasConsts) {
		t.Errorf("what was handed to New is changed")
	}
	// Now the caller changes all of it.
	clear(whole(cs))
	for _, s := range p.Alphas {
		scribble(s.Cells)
	}
	for _, node := range p.Nodes {
		clear(whole(node.Links))
		scribble(node.New)
	}
	clear(whole(p.Alphas))
	clear(whole(p.Nodes))
	scribble(p.Ends)
	other := made(t, consts(), mixedRules()...)
	wantAssert(t, other, most, len(rows), rows...)
	if got, want := fmt.Sprint(seen(n)), fmt.Sprint(seen(other)); got != want {
		t.Errorf("behind changes of what was handed in: %s, want %s", got, want)
	}
	wantUndo(t, n, 3, api.OK)
	wantUndo(t, other, 3, api.OK)
	wantAssert(t, n, most, len(rows)-3, rows...)
	wantAssert(t, other, most, len(rows)-3, rows...)
	if got, want := fmt.Sprint(seen(n), n.Changes()), fmt.Sprint(seen(other), other.Changes()); got != want {
		t.Errorf("behind changes of what was handed in: %s, want %s", got, want)
	}
}

func TestRowsAreNeitherChangedNorKept(t *testing.T) {
	n := made(t, consts(), mixedRules()...)
	rows := roomy([]api.Row{{Pred: edge, Args: roomy([]int{1, 2}, 9)}, {Pred: edge, Args: roomy([]int{0, 1}, 9)}, {Pred: edge, Args: roomy([]int{1, 2}, 9)}}, row(9, 9))
	was := fmt.Sprint(whole(rows), whole(rows[0].Args), whole(rows[1].Args))
	n.Assert(1, rows...)
	wantAssert(t, n, most, 2, rows...)
	if now := fmt.Sprint(whole(rows), whole(rows[0].Args), whole(rows[1].Args)); now != was {
		t.Errorf("the rows handed in are %s, were %s", now, was)
	}
	for _, r := range rows {
		scribble(r.Args)
	}
	clear(rows)
	wantRows(t, n, row(edge, 1, 2), row(edge, 0, 1))
	wantTokens(t, n, 1, []int{0, 1}, []int{1, 2})
	wantAssert(t, n, most, 0, row(edge, 0, 1))
	wantUndo(t, n, 0, api.OK)
	wantLive(t, n, 1)
}

// lists is all lists of numbers in answers of a net, in some order.
func lists(n *rete.Net, nodes int) (all [][]int) {
	for _, r := range n.Rows() {
		all = append(all, r.Args)
	}
	for _, a := range n.Conflict() {
		all = append(all, a.Subst)
	}
	for node := range nodes {
		tokens, _ := n.Tokens(node)
		all = append(all, tokens...)
	}
	for _, change := range n.Changes() {
		all = append(all, change.Act.Subst)
	}
	return all
}

func TestAnswersAreNewMemory(t *testing.T) {
	fresh := func() *rete.Net {
		n := made(t, consts(), append(mixedRules(), goes())...)
		wantAssert(t, n, most, 5, row(edge, 1, 0), row(edge, 0, 1), row(edge, 1, 1), row(stop, 2), row(7, 0, 1, 0))
		return n
	}
	const nodes = 7
	count := len(lists(fresh(), nodes))
	if count < 20 {
		t.Fatalf("only %d lists", count)
	}
	for spoilt := range count {
		n := fresh()
		was := fmt.Sprint(seen(n))
		answer, want := lists(n, nodes), lists(fresh(), nodes)
		scribble(answer[spoilt])
		for num := range answer {
			if num != spoilt && !slices.Equal(answer[num], want[num]) {
				t.Errorf("list %d is %v behind what was written into list %d, was %v", num, answer[num], spoilt, want[num])
			}
		}
		if now := fmt.Sprint(seen(n)); now != was {
			t.Errorf("the net tells %s behind what was written into list %d, was %s", now, spoilt, was)
		}
		wantUndo(t, n, 0, api.OK)
		wantChanges(t, n, went(0, 0, 1), went(0, 1, 0), went(0, 1, 1), went(1, 0, 1, 0, 0), went(1, 0, 1, 1, 0), went(3, 0, 1), went(3, 1, 0), went(3, 1, 1))
	}
}

// Two lists of one answer lie apart, with their spare room.
func TestListsOfAnAnswerLieApart(t *testing.T) {
	n := made(t, consts(), goes(), goes())
	wantAssert(t, n, most, 9, all(edge, 2, 3)...)
	tokens, _ := n.Tokens(1)
	want, _ := n.Tokens(1)
	for num := range tokens {
		tokens[num] = append(tokens[num], 7, 7, 7)
	}
	for num := range tokens {
		if !slices.Equal(tokens[num][:2], want[num]) {
			t.Errorf("token %d is %v, want %v", num, tokens[num], want[num])
		}
	}
	acts, rows := n.Conflict(), n.Rows()
	for num := range acts {
		acts[num].Subst = append(acts[num].Subst, 7, 7)
	}
	for num := range rows {
		rows[num].Args = append(rows[num].Args, 7, 7)
	}
	for num, a := range n.Conflict() {
		if !slices.Equal(acts[num].Subst[:2], a.Subst) {
			t.Errorf("act %d is %v, want %v", num, acts[num], a)
		}
	}
	for num, r := range n.Rows() {
		if !slices.Equal(rows[num].Args[:2], r.Args) {
			t.Errorf("row %d is %v, want %v", num, rows[num], r)
		}
	}
	outer := n.Conflict()
	clear(whole(outer))
	if reflect.DeepEqual(outer, n.Conflict()) {
		t.Error("Conflict is what was written into its answer")
	}
}
