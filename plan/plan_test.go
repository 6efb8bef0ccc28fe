package plan_test

import (
	"math"
	"slices"
	"strings"
	"testing"

	"edict/api"
	"edict/bound"
	"edict/core"
	"edict/parse"
	"edict/plan"
)

// The examples

var (
	qxyry    = rule(pat(q, v(0), v(1)), pat(r, v(1)))
	qxyNotRy = rule(pat(q, v(0), v(1)), not(pat(r, v(1))))
)

const textOfQxyry = `alpha 0 1(*, *)
alpha 1 2(*)
node 0 root
node 1 join 0 under 0 new 0, 1 width 2
node 2 join 1 under 1 link 0=v1 width 2
`

func TestExample1(t *testing.T) {
	wantPlan(t, nil, api.Plan{Nodes: []api.Node{root()}})
	wantText(t, made(t), "node 0 root\n")
}

func TestExample2(t *testing.T) {
	wantPlan(t, []api.Rule{qxyry}, api.Plan{
		Alphas: []api.Shape{shape(q, -1, -2), shape(r, -1)},
		Nodes:  []api.Node{root(), join(0, 0, 2, nil, 0, 1), join(1, 1, 2, []api.Link{link(0, 1)})},
		Ends:   []int{2},
	})
	wantText(t, made(t, qxyry), textOfQxyry+"rule 0 at 2\n")
}

func TestExample3(t *testing.T) {
	wantPlan(t, []api.Rule{qxyry, qxyNotRy}, api.Plan{
		Alphas: []api.Shape{shape(q, -1, -2), shape(r, -1)},
		Nodes:  []api.Node{root(), join(0, 0, 2, nil, 0, 1), join(1, 1, 2, []api.Link{link(0, 1)}), neg(1, 1, 2, link(0, 1))},
		Ends:   []int{2, 3},
	})
	wantText(t, made(t, qxyry, qxyNotRy), textOfQxyry+"node 3 neg 1 under 1 link 0=v1 width 2\nrule 0 at 2\nrule 1 at 3\n")
}

func TestExample4(t *testing.T) {
	wantPlan(t, []api.Rule{rule(pat(q, v(0), v(0)))}, api.Plan{
		Alphas: []api.Shape{shape(q, -1, -1)},
		Nodes:  []api.Node{root(), join(0, 0, 1, nil, 0)},
		Ends:   []int{1},
	})
	wantText(t, made(t, rule(pat(q, v(0), c(0)), pat(q, v(0), v(0)))), `alpha 0 1(*, #0)
alpha 1 1(*, =0)
node 0 root
node 1 join 0 under 0 new 0 width 1
node 2 join 1 under 1 link 0=v0 width 1
rule 0 at 2
`)
}

func TestExample5(t *testing.T) {
	wantText(t, made(t, rule(pat(q, v(0), v(1)), pat(q, v(1), v(0)))), `alpha 0 1(*, *)
node 0 root
node 1 join 0 under 0 new 0, 1 width 2
node 2 join 0 under 1 link 0=v1, 1=v0 width 2
rule 0 at 2
`)
}

func TestExample6(t *testing.T) {
	wantText(t, made(t, rule(pat(q, v(0), v(1)), test(v(0), api.OpLt, v(1)), test(v(0), api.OpNe, c(0)), not(pat(r, v(0))))), `alpha 0 1(*, *)
alpha 1 2(*)
node 0 root
node 1 join 0 under 0 new 0, 1 width 2
node 2 test v0 < v1 under 1 width 2
node 3 test v0 != #0 under 2 width 2
node 4 neg 1 under 3 link 0=v0 width 2
rule 0 at 4
`)
}

func TestExample7(t *testing.T) {
	p := made(t, rule(pat(q, v(0), v(1))), rule(pat(q, v(0), v(1)), pat(r, v(0))), rule(pat(q, v(0), v(1))))
	if !slices.Equal(p.Ends, []int{1, 2, 1}) {
		t.Errorf("Ends are %v, want 1 2 1", p.Ends)
	}
}

func TestExample8(t *testing.T) {
	wantPlan(t, []api.Rule{rule(not(pat(q, c(0), c(0))))}, api.Plan{
		Alphas: []api.Shape{shape(q, 0, 0)},
		Nodes:  []api.Node{root(), neg(0, 0, 0)},
		Ends:   []int{1},
	})
}

func TestExample9(t *testing.T) {
	wantRefused(t, rule(pat(q, v(1), v(0))))
	wantRefused(t, rule(pat(q, v(0), v(0)), not(pat(r, v(1)))))
}

func TestExample10(t *testing.T) {
	wantTurned(t, made(t, qxyry, qxyNotRy), api.ErrArg, func(p *api.Plan) { p.Ends[0], p.Ends[1] = 3, 2 })
	wantTurned(t, made(t, qxyry), api.ErrArg, func(p *api.Plan) { p.Nodes, p.Ends[0] = p.Nodes[:2], 1 })
	wantTurned(t, made(t, qxyry), api.OK, func(p *api.Plan) { p.Nodes, p.Ends[0], p.Alphas = p.Nodes[:2], 1, p.Alphas[:1] })
}

// N1: which rules may be

// many is a rule with so many conditions of each kind.
func many(pos, tests, negs int) api.Rule {
	return api.Rule{
		Pos:   slices.Repeat([]api.Pattern{pat(0)}, pos),
		Tests: slices.Repeat([]api.Test{test(c(0), api.OpEq, c(0))}, tests),
		Neg:   slices.Repeat([]api.Pattern{pat(0)}, negs),
	}
}

// wide is a rule of three patterns with so many variables, of 9 to 17.
func wide(variables int) api.Rule {
	var slots []api.Slot
	for n := range variables {
		slots = append(slots, v(n))
	}
	return rule(pat(0, slots[:8]...), pat(0, slots[8:variables-1]...), pat(0, slots[variables-1]))
}

func TestConditionsLimit(t *testing.T) {
	for _, r := range []api.Rule{many(16, 0, 0), many(0, 16, 0), many(0, 0, 16), many(5, 6, 5), many(0, 0, 0)} {
		made(t, r)
	}
	for _, r := range []api.Rule{many(17, 0, 0), many(0, 17, 0), many(0, 0, 17), many(6, 6, 5), many(1, 0, 16), many(0, 16, 1), many(16, 1, 0), many(3000, 3000, 3000)} {
		wantRefused(t, r)
	}
}

func TestVariablesLimit(t *testing.T) {
	for variables := 9; variables <= api.MaxVars; variables++ {
		p := made(t, wide(variables))
		if width := p.Nodes[3].Width; width != variables {
			t.Errorf("the width of %d variables is %d", variables, width)
		}
	}
	wantRefused(t, wide(api.MaxVars+1))
}

func TestArityLimit(t *testing.T) {
	constants := slices.Repeat([]api.Slot{c(7)}, 9)
	for places := range constants {
		made(t, rule(pat(0, constants[:places]...)), rule(not(pat(0, constants[:places]...))))
	}
	wantRefused(t, rule(pat(0, constants...)))
	wantRefused(t, rule(not(pat(0, constants...))))
	wantRefused(t, rule(pat(0, v(0)), not(pat(0, slices.Repeat([]api.Slot{v(0)}, 9)...))))
}

func TestRefusedPatterns(t *testing.T) {
	for _, bad := range []api.Pattern{
		pat(-1), pat(math.MinInt), pat(-1, v(0)), pat(q, c(-1)), pat(q, v(-1)), pat(q, c(math.MinInt)), pat(q, v(math.MinInt)),
		pat(q, v(0), c(-1)), pat(q, v(0), v(-1)), pat(q, c(0), v(0), c(-2)), pat(q, v(2)), pat(q, v(0), v(2)), pat(q, v(math.MaxInt)),
	} {
		wantRefused(t, rule(pat(q, v(0)), bad))
		wantRefused(t, rule(pat(q, v(0)), not(bad)))
	}
	for _, good := range []api.Pattern{pat(math.MaxInt), pat(0), pat(0, c(0)), pat(q, c(math.MaxInt), v(0), v(0))} {
		made(t, rule(pat(q, v(0)), good))
		made(t, rule(pat(q, v(0)), not(good)))
	}
}

func TestNumberingOfVariables(t *testing.T) {
	made(t, rule(pat(q, v(0), v(1), v(0), v(2)), pat(r, v(1), v(3)), pat(r, v(0)), pat(r, v(4), v(3), v(4))))
	wantRefused(t, rule(pat(q, v(1))))
	wantRefused(t, rule(pat(q, v(0), v(2), v(1))))
	wantRefused(t, rule(pat(q, v(0)), pat(q, v(2)), pat(q, v(1))))
	// A negated atom or a test binds nothing, a constant has no number of a variable.
	made(t, rule(pat(q, v(0)), not(pat(r, v(0)))))
	wantRefused(t, rule(pat(q, v(0)), not(pat(r, v(1)))))
	wantRefused(t, rule(not(pat(r, v(0)))))
	wantRefused(t, rule(pat(q, c(0)), not(pat(r, v(0)))))
	wantRefused(t, rule(pat(q, c(0), v(1))))
	made(t, rule(pat(q, v(0), c(5)), not(pat(r, c(6)))))
}

func TestRefusedTests(t *testing.T) {
	for _, bad := range []api.Test{
		{}, test(c(0), 0, c(0)), test(c(0), 7, c(0)), test(c(0), -1, c(0)), test(c(0), math.MaxInt, c(0)), test(c(0), math.MinInt, c(0)),
		test(v(2), 1, c(0)), test(c(0), 1, v(2)), test(v(math.MaxInt), 1, c(0)), test(c(0), 1, v(math.MaxInt)),
		test(v(-1), 1, c(0)), test(c(0), 1, v(-1)), test(c(-1), 1, c(0)), test(c(0), 1, c(-1)), test(c(math.MinInt), 1, v(math.MinInt)),
	} {
		wantRefused(t, rule(pat(q, v(0), v(1)), bad))
	}
	for op := api.OpEq; op <= api.OpGe; op++ {
		made(t, rule(pat(q, v(0), v(1)), test(v(1), op, v(0)), test(c(2), op, v(1)), test(v(1), op, c(math.MaxInt)), test(c(0), op, c(0))))
	}
	wantRefused(t, rule(test(v(0), 1, c(0))))
}

// One rule that may not be is enough, wherever it stands.
func TestRefusedAmongOthers(t *testing.T) {
	bad := rule(pat(-1))
	wantRefused(t, bad)
	wantRefused(t, bad, qxyry, qxyNotRy)
	wantRefused(t, qxyry, bad, qxyNotRy)
	wantRefused(t, qxyry, qxyNotRy, bad)
}

func TestHeadVarsAndClauseAreNotLookedAt(t *testing.T) {
	odd := qxyry
	odd.Head, odd.Vars, odd.Clause = pat(-7, slices.Repeat([]api.Slot{v(-3)}, 40)...), slices.Repeat([]string{""}, 50), -9
	wantPlan(t, []api.Rule{odd}, made(t, qxyry))
}

// N1: the nodes

func TestEmptyChains(t *testing.T) {
	wantText(t, made(t, rule(), rule(pat(5)), rule()), `alpha 0 5()
node 0 root
node 1 join 0 under 0 width 0
rule 0 at 0
rule 1 at 1
rule 2 at 0
`)
	wantText(t, made(t, rule(), rule()), "node 0 root\nrule 0 at 0\nrule 1 at 0\n")
}

func TestLinksAndNewPlaces(t *testing.T) {
	wantText(t, made(t, rule(pat(q, v(0), c(4), v(1)), pat(q, v(2), v(1), v(2), c(4), v(0), v(3), v(1), v(3)), not(pat(q, v(3), v(0), v(3))))), `alpha 0 1(*, #4, *)
alpha 1 1(*, *, =0, #4, *, *, =1, =5)
alpha 2 1(*, *, =0)
node 0 root
node 1 join 0 under 0 new 0, 2 width 2
node 2 join 1 under 1 link 1=v1, 4=v0 new 0, 5 width 4
node 3 neg 2 under 2 link 0=v3, 1=v0 width 4
rule 0 at 3
`)
}

// The chain has tests behind all positive atoms and negations behind all tests: so do the nodes and the shapes.
func TestOrderOfTheChain(t *testing.T) {
	wantText(t, made(t, rule(not(pat(9)), test(c(1), api.OpGe, c(2)), pat(8), not(pat(7)), test(c(2), api.OpLe, c(1)), pat(6))), `alpha 0 8()
alpha 1 6()
alpha 2 9()
alpha 3 7()
node 0 root
node 1 join 0 under 0 width 0
node 2 join 1 under 1 width 0
node 3 test #1 >= #2 under 2 width 0
node 4 test #2 <= #1 under 3 width 0
node 5 neg 2 under 4 width 0
node 6 neg 3 under 5 width 0
rule 0 at 6
`)
}

// The same condition twice is two nodes, one below the other.
func TestSameConditionTwice(t *testing.T) {
	wantText(t, made(t, rule(pat(q, v(0)), pat(q, v(0)), pat(q, v(0)), test(v(0), 1, v(0)), test(v(0), 1, v(0)), not(pat(q, v(0))), not(pat(q, v(0))))), `alpha 0 1(*)
node 0 root
node 1 join 0 under 0 new 0 width 1
node 2 join 0 under 1 link 0=v0 width 1
node 3 join 0 under 2 link 0=v0 width 1
node 4 test v0 = v0 under 3 width 1
node 5 test v0 = v0 under 4 width 1
node 6 neg 0 under 5 link 0=v0 width 1
node 7 neg 0 under 6 link 0=v0 width 1
rule 0 at 7
`)
}

// N3

// wantShared holds how many nodes two rules' ways share.
func wantShared(t *testing.T, a, b api.Rule, want int) {
	t.Helper()
	p := made(t, a, b)
	one, _ := plan.Chain(p, 0)
	two, _ := plan.Chain(p, 1)
	got := 0
	for got < min(len(one), len(two)) && one[got] == two[got] {
		got++
	}
	if got != want {
		t.Errorf("the ways of %v and %v share %d nodes, want %d", a, b, got, want)
	}
	if all := len(one) + len(two) - want + 1; len(p.Nodes) != all {
		t.Errorf("the plan of %v and %v has %d nodes, want %d", a, b, len(p.Nodes), all)
	}
}

func TestWhereWaysPart(t *testing.T) {
	first := pat(q, v(0), v(1))
	ahead := func(conditions ...any) api.Rule { return rule(append([]any{first}, conditions...)...) }
	for _, x := range []struct {
		a, b api.Rule
		want int
	}{
		{ahead(test(v(0), 1, c(1))), ahead(test(c(1), 1, v(0))), 1},
		{ahead(test(v(0), 1, c(1))), ahead(test(v(0), 1, v(1))), 1},
		{ahead(test(v(0), 1, c(1))), ahead(test(c(0), 1, c(1))), 1},
		{ahead(test(v(0), 1, c(1))), ahead(test(v(0), 2, c(1))), 1},
		{ahead(test(v(0), 1, c(1))), ahead(test(v(0), 1, c(1))), 2},
		{ahead(pat(r, v(0))), ahead(pat(r, v(1))), 1},
		{ahead(pat(r, v(0))), ahead(pat(r, v(2))), 1},
		{ahead(pat(r, v(0))), ahead(pat(r, c(0))), 1},
		{ahead(pat(r, v(0))), ahead(not(pat(r, v(0)))), 1},
		{ahead(pat(r)), ahead(not(pat(r))), 1},
		{ahead(pat(r, v(0))), ahead(pat(0, v(0))), 1},
		{ahead(pat(r, v(0), v(2))), ahead(pat(r, v(2), v(0))), 1},
		{ahead(pat(r, v(0), v(1))), ahead(pat(r, v(1), v(0))), 1},
		{ahead(pat(r, v(0), v(2))), ahead(pat(r, v(0), v(1))), 1},
		{ahead(pat(r, v(2), v(3))), ahead(pat(r, v(2), v(2))), 1},
		{ahead(pat(r, v(2), v(1)), pat(r, v(2))), ahead(pat(r, v(2), v(1)), pat(r, v(1))), 2},
		{rule(pat(q, v(0), v(1))), rule(pat(q, v(0), v(0))), 0},
		{rule(pat(q, v(0))), rule(pat(q, v(0), v(1))), 0},
		{rule(pat(q)), rule(not(pat(q))), 0},
		{rule(), first2(), 0},
		{first2(), first2(), 2},
	} {
		wantShared(t, x.a, x.b, x.want)
		wantShared(t, x.b, x.a, x.want)
	}
}

func first2() api.Rule { return rule(pat(q, v(0)), pat(q, v(1))) }

// A link to variable 0 at place 0, or a new place 0, is not the same as none.
func TestNoLinkIsNotTheFirstLink(t *testing.T) {
	wantShared(t, rule(pat(q, v(0)), pat(r, v(0))), rule(pat(q, v(0)), pat(r, c(0))), 1)
	wantShared(t, rule(pat(q, v(0)), pat(r, v(0))), rule(pat(q, v(0)), pat(r, v(1))), 1)
	wantShared(t, rule(pat(q, v(0)), pat(r, v(1))), rule(pat(q, v(0)), pat(r, c(0))), 1)
	wantShared(t, rule(pat(q, v(0)), pat(r)), rule(pat(q, v(0)), pat(r, v(0))), 1)
}

// N5

func TestChainAndKids(t *testing.T) {
	p := made(t, rule(pat(q, v(0))), rule(pat(q, v(0)), pat(r, v(0))), rule(), rule(pat(r, v(0)), not(pat(q, v(0)))), rule(pat(q, v(0)), test(v(0), 1, c(0)), not(pat(r, v(0)))), rule(pat(q, v(0))))
	for num, way := range [][]int{{1}, {1, 2}, nil, {3, 4}, {1, 5, 6}, {1}} {
		wantChain(t, p, num, way...)
	}
	for num, kids := range [][]int{{1, 3}, {2, 5}, nil, {4}, nil, {6}, nil} {
		wantKids(t, p, num, kids...)
	}
	for _, n := range []int{-1, math.MinInt, math.MaxInt, 6, 7} {
		if way, e := plan.Chain(p, n); e != api.ErrArg || len(way) > 0 {
			t.Errorf("Chain of rule %d = %v, %d, want ErrArg", n, way, e)
		}
	}
	for _, n := range []int{-1, math.MinInt, math.MaxInt, 7, 8} {
		if kids, e := plan.Kids(p, n); e != api.ErrArg || len(kids) > 0 {
			t.Errorf("Kids of node %d = %v, %d, want ErrArg", n, kids, e)
		}
	}
}

func TestChainOfNoRules(t *testing.T) {
	if way, e := plan.Chain(made(t), 0); e != api.ErrArg || len(way) > 0 {
		t.Errorf("Chain without rules = %v, %d, want ErrArg", way, e)
	}
	wantKids(t, made(t), 0)
}

func TestOpsInTexts(t *testing.T) {
	for op, word := range map[int]string{api.OpEq: "=", api.OpNe: "!=", api.OpLt: "<", api.OpLe: "<=", api.OpGt: ">", api.OpGe: ">="} {
		wantText(t, made(t, rule(pat(q, v(0)), test(v(0), op, c(12)))), "alpha 0 1(*)\nnode 0 root\nnode 1 join 0 under 0 new 0 width 1\nnode 2 test v0 "+word+" #12 under 1 width 1\nrule 0 at 2\n")
	}
}

func TestNumbersInTexts(t *testing.T) {
	wantText(t, made(t, rule(not(pat(math.MaxInt, c(math.MaxInt), c(0), c(10))), test(c(math.MaxInt), 1, c(0)))), `alpha 0 9223372036854775807(#9223372036854775807, #0, #10)
node 0 root
node 1 test #9223372036854775807 = #0 under 0 width 0
node 2 neg 0 under 1 width 0
rule 0 at 2
`)
	var rules []api.Rule
	for n := range 1200 {
		rules = append(rules, rule(pat(n)))
	}
	if text := plan.Text(made(t, rules...)); !strings.HasSuffix(text, "\nrule 1199 at 1200\n") || !strings.Contains(text, "\nalpha 1199 1199()\nnode 0 root\n") || !strings.Contains(text, "\nnode 1000 join 999 under 0 width 0\n") {
		t.Errorf("Text of 1200 rules is\n%s", text)
	}
}

// The program of DOC.md's examples: its plan has the token bound that example 1 tells.
func TestPlanOfTheWholeExample(t *testing.T) {
	program, _ := parse.Program("edge(a, b). edge(b, c). path(X, Y) :- edge(X, Y). path(X, Z) :- path(X, Y), edge(Y, Z). node(X) :- edge(X, _). node(Y) :- edge(_, Y). apart(X, Y) :- node(X), node(Y), not path(X, Y).")
	k, fault := core.Build(program, nil)
	if fault.Code != api.OK {
		t.Fatal(fault)
	}
	p := made(t, k.Rules...)
	wantText(t, p, `alpha 0 0(*, *)
alpha 1 1(*, *)
alpha 2 2(*)
node 0 root
node 1 join 0 under 0 new 0, 1 width 2
node 2 join 1 under 0 new 0, 1 width 2
node 3 join 0 under 2 link 0=v1 new 1 width 3
node 4 join 2 under 0 new 0 width 1
node 5 join 2 under 4 new 0 width 2
node 6 neg 1 under 5 link 0=v0, 1=v1 width 2
rule 0 at 1
rule 1 at 3
rule 2 at 1
rule 3 at 1
rule 4 at 6
`)
	if most := bound.Tokens(len(k.Consts), p); most != 66 {
		t.Errorf("the token bound is %d, want 66", most)
	}
}
