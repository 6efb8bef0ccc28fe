package plan_test

import (
	"fmt"
	"math/rand"
	"reflect"
	"slices"
	"sync"
	"testing"

	"edict/api"
	"edict/plan"
)

// DOC.md's P2 and P3

// roomy is a list with spare room behind it that is filled.
func roomy[T any](list []T, spare T) []T {
	return append(slices.Clone(list), spare, spare, spare)[:len(list)]
}

// whole is a list with all its spare room.
func whole[T any](list []T) []T { return list[:cap(list)] }

func roomyPatterns(ps []api.Pattern) []api.Pattern {
	ps = roomy(ps, pat(9, c(9)))
	for i := range ps {
		ps[i].Args = roomy(ps[i].Args, c(9))
	}
	return ps
}

func roomyRules(rules []api.Rule) []api.Rule {
	rules = roomy(rules, rule(pat(9)))
	for i := range rules {
		x := &rules[i]
		x.Pos, x.Tests, x.Neg = roomyPatterns(x.Pos), roomy(x.Tests, test(c(9), 1, c(9))), roomyPatterns(x.Neg)
	}
	return rules
}

func roomyPlan(p api.Plan) api.Plan {
	p = api.Plan{Alphas: roomy(p.Alphas, shape(9)), Nodes: roomy(p.Nodes, root()), Ends: roomy(p.Ends, 9)}
	for mem := range p.Alphas {
		p.Alphas[mem].Cells = roomy(p.Alphas[mem].Cells, 9)
	}
	for num := range p.Nodes {
		p.Nodes[num].Links, p.Nodes[num].New = roomy(p.Nodes[num].Links, link(9, 9)), roomy(p.Nodes[num].New, 9)
	}
	return p
}

// deepRules and deepPlan are the texts of all that rules and plans have, spare room too.
func deepRules(rules []api.Rule) string {
	text := ""
	for _, x := range whole(rules) {
		for _, p := range append(slices.Clone(whole(x.Pos)), whole(x.Neg)...) {
			text += fmt.Sprintln(p.Pred, whole(p.Args))
		}
		text += fmt.Sprintln(whole(x.Tests))
	}
	return text
}

func deepPlan(p api.Plan) string {
	text := fmt.Sprintln(whole(p.Ends))
	for _, s := range whole(p.Alphas) {
		text += fmt.Sprintln(s.Pred, whole(s.Cells))
	}
	for _, n := range whole(p.Nodes) {
		text += fmt.Sprintln(n, whole(n.Links), whole(n.New))
	}
	return text
}

func TestWhatIsHandedInIsNotChanged(t *testing.T) {
	for seed := range int64(100) {
		rules := roomyRules(wildRules(rand.New(rand.NewSource(seed))))
		was := deepRules(rules)
		p := roomyPlan(made(t, rules...))
		if now := deepRules(rules); now != was {
			t.Fatalf("the rules are\n%swere\n%s", now, was)
		}
		was = deepPlan(p)
		plan.Check(p)
		plan.Text(p)
		plan.Kids(p, 0)
		plan.Chain(p, 0)
		if now := deepPlan(p); now != was {
			t.Fatalf("the plan is\n%swas\n%s", now, was)
		}
	}
}

func TestWhatIsHandedInIsNotKept(t *testing.T) {
	for seed := range int64(100) {
		rules := roomyRules(wildRules(rand.New(rand.NewSource(seed))))
		p := made(t, rules...)
		was := deepPlan(p)
		for i := range rules {
			for _, number := range numbersOf(&rules[i]) {
				*number = 77
			}
		}
		if now := deepPlan(p); now != was {
			t.Fatalf("the plan is\n%swas\n%s", now, was)
		}
	}
}

// spoilers are functions that write over one list of a plan each, its spare room too.
func spoilers(p api.Plan) (all []func()) {
	all = append(all, spoiler(p.Ends, 77))
	for _, s := range p.Alphas {
		all = append(all, spoiler(s.Cells, 77))
	}
	for _, n := range p.Nodes {
		all = append(all, spoiler(n.Links, link(77, 77)), spoiler(n.New, 77))
	}
	return all
}

func spoiler[T any](list []T, with T) func() {
	return func() {
		for i := range whole(list) {
			whole(list)[i] = with
		}
	}
}

func TestAnswersAreNewMemory(t *testing.T) {
	for seed := range int64(60) {
		rules := wildRules(rand.New(rand.NewSource(seed)))
		for num := range spoilers(made(t, rules...)) {
			p := made(t, rules...)
			other := made(t, rules...)
			lists := []string{fmt.Sprint(p.Ends)}
			lists = append(lists, listsOf(p)...)
			spoilers(p)[num]()
			now := append([]string{fmt.Sprint(p.Ends)}, listsOf(p)...)
			for i := range lists {
				if i != num && lists[i] != now[i] {
					t.Fatalf("the list %d of %v was written over with list %d", i, p, num)
				}
			}
			if !same(other, made(t, rules...)) || !same(other, plainCompile(rules)) {
				t.Fatalf("another answer was written over: %v", other)
			}
		}
	}
}

// listsOf is the texts of the lists that spoilers write over, but Ends.
func listsOf(p api.Plan) (all []string) {
	for _, s := range p.Alphas {
		all = append(all, fmt.Sprint(s.Cells))
	}
	for _, n := range p.Nodes {
		all = append(all, fmt.Sprint(n.Links), fmt.Sprint(n.New))
	}
	return all
}

func TestChainAndKidsAreNewMemory(t *testing.T) {
	p := sample(t)
	was := deepPlan(p)
	way, _ := plan.Chain(p, 0)
	kids, _ := plan.Kids(p, 0)
	spoiler(way, 77)()
	spoiler(kids, 77)()
	wantChain(t, p, 0, 1, 2, 3, 4)
	wantKids(t, p, 0, 1, 6)
	if now := deepPlan(p); now != was {
		t.Errorf("the plan is\n%swas\n%s", now, was)
	}
}

// Calls at the same time answer what one alone answers.
func TestCallsAtOneTime(t *testing.T) {
	rules := wildRules(rand.New(rand.NewSource(8)))
	p := made(t, rules...)
	text := plan.Text(p)
	var group sync.WaitGroup
	for range 8 {
		group.Go(func() {
			for range 50 {
				if again, e := plan.Compile(rules); e != api.OK || !reflect.DeepEqual(again, p) || plan.Text(again) != text {
					t.Errorf("Compile(%v) = %v, %d, want %v", rules, again, e, p)
				}
			}
		})
	}
	group.Wait()
}
