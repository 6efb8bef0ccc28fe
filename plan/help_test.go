package plan_test

import (
	"slices"
	"testing"

	"edict/api"
	"edict/plan"
)

// As in the chapter's examples: p is predicate 0, q 1, r 2.
const (
	q = 1
	r = 2
)

func v(n int) api.Slot { return api.Slot{Var: true, N: n} }

func c(n int) api.Slot { return api.Slot{N: n} }

func pat(pred int, slots ...api.Slot) api.Pattern { return api.Pattern{Pred: pred, Args: slots} }

func test(left api.Slot, op int, right api.Slot) api.Test {
	return api.Test{Op: op, Left: left, Right: right}
}

// rule is a rule of patterns (Pos), tests and negated ones, in whatever order these are given.
func rule(conditions ...any) api.Rule {
	var made api.Rule
	for _, condition := range conditions {
		switch x := condition.(type) {
		case api.Pattern:
			made.Pos = append(made.Pos, x)
		case api.Test:
			made.Tests = append(made.Tests, x)
		case not:
			made.Neg = append(made.Neg, api.Pattern(x))
		}
	}
	return made
}

type not api.Pattern

func shape(pred int, cells ...int) api.Shape { return api.Shape{Pred: pred, Cells: cells} }

func link(place, variable int) api.Link { return api.Link{Place: place, Var: variable} }

func root() api.Node { return api.Node{Kind: api.NRoot, Parent: -1, Alpha: -1} }

func join(parent, alpha, width int, links []api.Link, places ...int) api.Node {
	return api.Node{Kind: api.NJoin, Parent: parent, Alpha: alpha, Links: links, New: places, Width: width}
}

func neg(parent, alpha, width int, links ...api.Link) api.Node {
	return api.Node{Kind: api.NNeg, Parent: parent, Alpha: alpha, Links: links, Width: width}
}

func testNode(parent, width int, asked api.Test) api.Node {
	return api.Node{Kind: api.NTest, Parent: parent, Alpha: -1, Test: asked, Width: width}
}

func sameShape(a, b api.Shape) bool { return a.Pred == b.Pred && slices.Equal(a.Cells, b.Cells) }

func sameNode(a, b api.Node) bool {
	return a.Kind == b.Kind && a.Parent == b.Parent && a.Alpha == b.Alpha && slices.Equal(a.Links, b.Links) &&
		slices.Equal(a.New, b.New) && a.Test == b.Test && a.Width == b.Width
}

func same(a, b api.Plan) bool {
	return slices.EqualFunc(a.Alphas, b.Alphas, sameShape) && slices.EqualFunc(a.Nodes, b.Nodes, sameNode) && slices.Equal(a.Ends, b.Ends)
}

func zero(p api.Plan) bool { return p.Alphas == nil && p.Nodes == nil && p.Ends == nil }

// made is the plan of rules that may be.
func made(t *testing.T, rules ...api.Rule) api.Plan {
	t.Helper()
	p, e := plan.Compile(rules)
	if e != api.OK {
		t.Fatalf("Compile(%v) = %d, want OK", rules, e)
	}
	return p
}

// wantPlan holds Compile's answer against a plan, and Check against the answer.
func wantPlan(t *testing.T, rules []api.Rule, want api.Plan) {
	t.Helper()
	p := made(t, rules...)
	if !same(p, want) {
		t.Errorf("Compile(%v) = %v, want %v", rules, p, want)
	}
	wantCheck(t, p, api.OK)
}

func wantRefused(t *testing.T, rules ...api.Rule) {
	t.Helper()
	if p, e := plan.Compile(rules); e != api.ErrArg || !zero(p) {
		t.Errorf("Compile(%v) = %v, %d, want the zero Plan, ErrArg", rules, p, e)
	}
}

func wantCheck(t *testing.T, p api.Plan, want api.Errno) {
	t.Helper()
	if got := plan.Check(p); got != want {
		t.Errorf("Check(%v) = %d, want %d", p, got, want)
	}
	// The other calls refuse just what Check refuses.
	if got := plan.Text(p) != ""; got != (want == api.OK) {
		t.Errorf("Text(%v) = %q", p, plan.Text(p))
	}
	if kids, e := plan.Kids(p, 0); e != want || e != api.OK && len(kids) > 0 {
		t.Errorf("Kids(%v, 0) = %v, %d, want the error %d", p, kids, e, want)
	}
	if len(p.Ends) == 0 {
		return
	}
	if way, e := plan.Chain(p, 0); e != want || e != api.OK && len(way) > 0 {
		t.Errorf("Chain(%v, 0) = %v, %d, want the error %d", p, way, e, want)
	}
}

func wantText(t *testing.T, p api.Plan, want string) {
	t.Helper()
	if got := plan.Text(p); got != want {
		t.Errorf("Text is\n%swant\n%s", got, want)
	}
}

func wantChain(t *testing.T, p api.Plan, rule int, want ...int) {
	t.Helper()
	if got, e := plan.Chain(p, rule); e != api.OK || !slices.Equal(got, want) {
		t.Errorf("Chain(%v, %d) = %v, %d, want %v", p, rule, got, e, want)
	}
}

func wantKids(t *testing.T, p api.Plan, node int, want ...int) {
	t.Helper()
	if got, e := plan.Kids(p, node); e != api.OK || !slices.Equal(got, want) {
		t.Errorf("Kids(%v, %d) = %v, %d, want %v", p, node, got, e, want)
	}
}

// copied is a plan that shares nothing with another.
func copied(p api.Plan) api.Plan {
	p.Alphas, p.Nodes, p.Ends = slices.Clone(p.Alphas), slices.Clone(p.Nodes), slices.Clone(p.Ends)
	for mem := range p.Alphas {
		p.Alphas[mem].Cells = slices.Clone(p.Alphas[mem].Cells)
	}
	for num := range p.Nodes {
		p.Nodes[num].Links, p.Nodes[num].New = slices.Clone(p.Nodes[num].Links), slices.Clone(p.Nodes[num].New)
	}
	return p
}

// wantTurned holds Check against a plan in which one thing is turned; the plan itself is well formed and stays so.
func wantTurned(t *testing.T, p api.Plan, want api.Errno, turn func(p *api.Plan)) {
	t.Helper()
	wantCheck(t, p, api.OK)
	turned := copied(p)
	turn(&turned)
	wantCheck(t, turned, want)
}
