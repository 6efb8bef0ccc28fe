package plan_test

import (
	"fmt"
	"math"
	"math/rand"
	"slices"
	"strings"
	"testing"

	"edict/alpha"
	"edict/api"
	"edict/plan"
)

// A second compiler, that looks for each node and each shape by going through all, and has no limits.

// condition is one of a chain: its kind, and its pattern or its test.
type condition struct {
	kind    int
	pattern api.Pattern
	test    api.Test
}

func (a condition) same(b condition) bool {
	return a.kind == b.kind && a.test == b.test && a.pattern.Pred == b.pattern.Pred && slices.Equal(a.pattern.Args, b.pattern.Args)
}

func chainOf(r api.Rule) (chain []condition) {
	for _, p := range r.Pos {
		chain = append(chain, condition{kind: api.NJoin, pattern: p})
	}
	for _, t := range r.Tests {
		chain = append(chain, condition{kind: api.NTest, test: t})
	}
	for _, p := range r.Neg {
		chain = append(chain, condition{kind: api.NNeg, pattern: p})
	}
	return chain
}

func plainCompile(rules []api.Rule) api.Plan {
	var all []api.Pattern
	for _, r := range rules {
		all = append(append(all, r.Pos...), r.Neg...)
	}
	p := api.Plan{Alphas: alpha.Distinct(all), Nodes: []api.Node{root()}}
	for _, r := range rules {
		at := 0
		for _, asked := range chainOf(r) {
			n := plainNode(p, at, asked)
			at = slices.IndexFunc(p.Nodes, func(m api.Node) bool { return sameNode(m, n) })
			if at < 0 {
				at = len(p.Nodes)
				p.Nodes = append(p.Nodes, n)
			}
		}
		p.Ends = append(p.Ends, at)
	}
	return p
}

func plainNode(p api.Plan, parent int, asked condition) api.Node {
	n := api.Node{Kind: asked.kind, Parent: parent, Alpha: -1, Test: asked.test, Width: p.Nodes[parent].Width}
	if asked.kind == api.NTest {
		return n
	}
	n.Alpha = slices.IndexFunc(p.Alphas, func(s api.Shape) bool { return sameShape(s, alpha.Shape(asked.pattern)) })
	for place, slot := range asked.pattern.Args {
		switch {
		case !slot.Var || slices.Contains(asked.pattern.Args[:place], slot):
		case slot.N < p.Nodes[parent].Width:
			n.Links = append(n.Links, link(place, slot.N))
		default:
			n.New = append(n.New, place)
			n.Width++
		}
	}
	return n
}

// A plan read back: the other way to see whether it is well formed, by what well formed means.

// chainBack is the conditions on the way to a node, or false where they cannot be read.
func chainBack(p api.Plan, end int) ([]condition, bool) {
	var way []api.Node
	for end != 0 {
		if end < 0 || end >= len(p.Nodes) || len(way) > api.MaxBody {
			return nil, false
		}
		way = append(way, p.Nodes[end])
		end = p.Nodes[end].Parent
	}
	slices.Reverse(way)
	var chain []condition
	width := 0
	for _, n := range way {
		asked := condition{kind: n.Kind, test: n.Test}
		if n.Kind != api.NTest {
			var ok bool
			if asked.pattern, ok = patternBack(p, n, width); !ok {
				return nil, false
			}
		}
		width += len(n.New)
		chain = append(chain, asked)
	}
	return chain, true
}

func patternBack(p api.Plan, n api.Node, width int) (api.Pattern, bool) {
	if n.Alpha < 0 || n.Alpha >= len(p.Alphas) {
		return api.Pattern{}, false
	}
	s := p.Alphas[n.Alpha]
	back := api.Pattern{Pred: s.Pred}
	for place, cell := range s.Cells {
		linked := slices.IndexFunc(n.Links, func(l api.Link) bool { return l.Place == place })
		fresh := slices.Index(n.New, place)
		switch {
		case cell >= 0:
			back.Args = append(back.Args, c(cell))
		case -1-cell < place:
			back.Args = append(back.Args, back.Args[-1-cell])
		case linked >= 0:
			back.Args = append(back.Args, v(n.Links[linked].Var))
		case fresh >= 0:
			back.Args = append(back.Args, v(width+fresh))
		default:
			return api.Pattern{}, false
		}
	}
	return back, true
}

// ruleOf is the rule with this chain, or false where its conditions stand in no chain's order.
func ruleOf(chain []condition) (r api.Rule, ok bool) {
	for _, asked := range chain {
		switch asked.kind {
		case api.NJoin:
			r.Pos = append(r.Pos, asked.pattern)
		case api.NTest:
			r.Tests = append(r.Tests, asked.test)
		case api.NNeg:
			r.Neg = append(r.Neg, asked.pattern)
		default:
			return r, false
		}
	}
	return r, slices.EqualFunc(chainOf(r), chain, condition.same)
}

// wellFormed is what Check has to answer: whether a plan is Compile's answer for the rules that are read back.
func wellFormed(p api.Plan) api.Errno {
	var rules []api.Rule
	for _, end := range p.Ends {
		chain, ok := chainBack(p, end)
		if !ok {
			return api.ErrArg
		}
		r, ok := ruleOf(chain)
		if !ok {
			return api.ErrArg
		}
		rules = append(rules, r)
	}
	if again, e := plan.Compile(rules); e != api.OK || !same(again, p) {
		return api.ErrArg
	}
	return api.OK
}

// Text, another way.
func plainText(p api.Plan) string {
	var lines []string
	for mem, s := range p.Alphas {
		var cells []string
		for place, cell := range s.Cells {
			word := fmt.Sprintf("=%d", -1-cell)
			if cell >= 0 {
				word = fmt.Sprintf("#%d", cell)
			} else if -1-cell == place {
				word = "*"
			}
			cells = append(cells, word)
		}
		lines = append(lines, fmt.Sprintf("alpha %d %d(%s)", mem, s.Pred, strings.Join(cells, ", ")))
	}
	for num, n := range p.Nodes {
		lines = append(lines, plainNodeText(num, n))
	}
	for rule, end := range p.Ends {
		lines = append(lines, fmt.Sprintf("rule %d at %d", rule, end))
	}
	return strings.Join(lines, "\n") + "\n"
}

func plainNodeText(num int, n api.Node) string {
	words := []string{"node", fmt.Sprint(num), []string{"root", "join", "test", "neg"}[n.Kind]}
	if n.Kind == api.NRoot {
		return strings.Join(words, " ")
	}
	if n.Kind == api.NTest {
		side := func(s api.Slot) string { return map[bool]string{true: "v", false: "#"}[s.Var] + fmt.Sprint(s.N) }
		words = append(words, side(n.Test.Left), strings.Fields("= != < <= > >=")[n.Test.Op-1], side(n.Test.Right))
	} else {
		words = append(words, fmt.Sprint(n.Alpha))
	}
	words = append(words, "under", fmt.Sprint(n.Parent))
	var links []string
	for _, l := range n.Links {
		links = append(links, fmt.Sprintf("%d=v%d", l.Place, l.Var))
	}
	if len(links) > 0 {
		words = append(words, "link", strings.Join(links, ", "))
	}
	if len(n.New) > 0 {
		words = append(words, "new", strings.Trim(strings.ReplaceAll(fmt.Sprint(n.New), " ", ", "), "[]"))
	}
	return strings.Join(append(words, "width", fmt.Sprint(n.Width)), " ")
}

// Rules by chance, of few things, so that many chains begin alike.

func wildRules(r *rand.Rand) (rules []api.Rule) {
	for range r.Intn(9) {
		rules = append(rules, wildRule(r))
	}
	return rules
}

func wildRule(r *rand.Rand) (made api.Rule) {
	width := 0
	for range r.Intn(4) {
		p := api.Pattern{Pred: r.Intn(2)}
		for range r.Intn(4) {
			slot := api.Slot{Var: r.Intn(4) > 0, N: r.Intn(2)}
			if slot.Var {
				slot.N = min(r.Intn(4), width)
				width = max(width, slot.N+1)
			}
			p.Args = append(p.Args, slot)
		}
		made.Pos = append(made.Pos, p)
	}
	for range r.Intn(3) {
		made.Tests = append(made.Tests, test(boundSlot(r, width), 1+r.Intn(2)*5, boundSlot(r, width)))
	}
	for range r.Intn(3) {
		p := api.Pattern{Pred: r.Intn(2)}
		for range r.Intn(3) {
			p.Args = append(p.Args, boundSlot(r, width))
		}
		made.Neg = append(made.Neg, p)
	}
	return made
}

func boundSlot(r *rand.Rand, width int) api.Slot {
	if width == 0 || r.Intn(3) == 0 {
		return c(r.Intn(2))
	}
	return v(r.Intn(width))
}

func TestCompileByTheModel(t *testing.T) {
	for seed := range int64(2500) {
		rules := wildRules(rand.New(rand.NewSource(seed)))
		wantPlan(t, rules, plainCompile(rules))
		p := made(t, rules...)
		wantText(t, p, plainText(p))
		wantReadBack(t, p, rules)
		wantKidsAndChains(t, p)
		wantWaysPart(t, p, rules)
		if t.Failed() {
			t.Fatalf("with seed %d", seed)
		}
	}
}

// N2
func wantReadBack(t *testing.T, p api.Plan, rules []api.Rule) {
	t.Helper()
	for num, r := range rules {
		if chain, ok := chainBack(p, p.Ends[num]); !ok || !slices.EqualFunc(chain, chainOf(r), condition.same) {
			t.Errorf("rule %d of %v is read back as %v", num, rules, chain)
		}
	}
}

// N5
func wantKidsAndChains(t *testing.T, p api.Plan) {
	t.Helper()
	kids := make([][]int, len(p.Nodes))
	for num, n := range p.Nodes[1:] {
		kids[n.Parent] = append(kids[n.Parent], num+1)
	}
	for num := range p.Nodes {
		wantKids(t, p, num, kids[num]...)
	}
	for rule, end := range p.Ends {
		var way []int
		for ; end > 0; end = p.Nodes[end].Parent {
			way = append([]int{end}, way...)
		}
		wantChain(t, p, rule, way...)
	}
}

// N3
func wantWaysPart(t *testing.T, p api.Plan, rules []api.Rule) {
	t.Helper()
	for one, a := range rules {
		for two, b := range rules[:one] {
			wayA, _ := plan.Chain(p, one)
			wayB, _ := plan.Chain(p, two)
			for depth := range min(len(wayA), len(wayB)) {
				alike := slices.EqualFunc(chainOf(a)[:depth+1], chainOf(b)[:depth+1], condition.same)
				if shared := wayA[depth] == wayB[depth]; shared != alike {
					t.Errorf("rules %d and %d of %v: the nodes at depth %d are the same: %v, want %v", two, one, rules, depth, shared, alike)
				}
			}
		}
	}
	for num, n := range p.Nodes {
		for _, m := range p.Nodes[:num] {
			if sameNode(n, m) {
				t.Errorf("node %d of %v stands twice", num, p)
			}
		}
	}
}

// Rules that may not be, among those with one number turned.

// fitByTheWords tells whether a rule may be, by its list in the chapter.
func fitByTheWords(r api.Rule) bool {
	var slots []api.Slot
	width := 0
	for _, p := range append(slices.Clone(r.Pos), r.Neg...) {
		if p.Pred < 0 || len(p.Args) > 8 {
			return false
		}
	}
	for _, p := range r.Pos {
		for _, slot := range p.Args {
			if slot.N < 0 || slot.Var && slot.N > width {
				return false
			}
			if slot.Var {
				width = max(width, slot.N+1)
			}
		}
	}
	for _, p := range r.Neg {
		slots = append(slots, p.Args...)
	}
	for _, t := range r.Tests {
		if t.Op < 1 || t.Op > 6 {
			return false
		}
		slots = append(slots, t.Left, t.Right)
	}
	unfit := func(slot api.Slot) bool { return slot.N < 0 || slot.Var && slot.N >= width }
	return width <= 16 && len(r.Pos)+len(r.Tests)+len(r.Neg) <= 16 && !slices.ContainsFunc(slots, unfit)
}

// numbersOf is where the numbers of a rule stand.
func numbersOf(r *api.Rule) (all []*int) {
	for _, ps := range [][]api.Pattern{r.Pos, r.Neg} {
		for i := range ps {
			all = append(all, &ps[i].Pred)
			for place := range ps[i].Args {
				all = append(all, &ps[i].Args[place].N)
			}
		}
	}
	for i := range r.Tests {
		all = append(all, &r.Tests[i].Op, &r.Tests[i].Left.N, &r.Tests[i].Right.N)
	}
	return all
}

func TestCompileTurnedRules(t *testing.T) {
	refused := 0
	for seed := range int64(20000) {
		r := rand.New(rand.NewSource(seed))
		odd := wildRule(r)
		if all := numbersOf(&odd); len(all) > 0 {
			*all[r.Intn(len(all))] = wildNumber(r)
		}
		rules := []api.Rule{qxyry, odd, wildRule(r)}
		if fitByTheWords(odd) {
			wantPlan(t, rules, plainCompile(rules))
			continue
		}
		refused++
		wantRefused(t, rules...)
	}
	if refused < 2000 {
		t.Errorf("only %d rules were to be refused", refused)
	}
}

func wildNumber(r *rand.Rand) int {
	return []int{-2, -1, 0, 1, 2, 3, 4, 6, 7, 15, 16, 17, math.MinInt, math.MaxInt}[r.Intn(14)]
}

// N4: Check against what is read back

// turnPlan changes one thing of a plan, if it has that.
func turnPlan(r *rand.Rand, p *api.Plan) {
	all := planNumbers(p)
	switch r.Intn(12) {
	case 0:
		turnLists(r, p)
	case 1:
		turnNodes(r, p)
	case 2:
		if len(p.Nodes) > 0 {
			slot := &p.Nodes[r.Intn(len(p.Nodes))].Test.Left
			slot.Var = !slot.Var
		}
	case 3:
		if len(all) > 0 {
			*all[r.Intn(len(all))]++
		}
	case 4:
		if len(all) > 0 {
			*all[r.Intn(len(all))]--
		}
	case 5:
		if len(all) > 0 {
			one, two := all[r.Intn(len(all))], all[r.Intn(len(all))]
			*one, *two = *two, *one
		}
	default:
		if len(all) > 0 {
			*all[r.Intn(len(all))] = wildNumber(r)
		}
	}
}

// turnLists makes one list of a plan longer, shorter or another way round.
func turnLists(r *rand.Rand, p *api.Plan) {
	switch r.Intn(8) {
	case 0:
		p.Ends = append(p.Ends, r.Intn(len(p.Nodes)+1))
	case 1:
		p.Ends = p.Ends[:r.Intn(len(p.Ends)+1)]
	case 2:
		p.Nodes = p.Nodes[:r.Intn(len(p.Nodes)+1)]
	case 3:
		p.Alphas = p.Alphas[:r.Intn(len(p.Alphas)+1)]
	case 4:
		p.Alphas = append(p.Alphas, shape(r.Intn(3), -1))
	case 5:
		slices.Reverse(p.Ends)
	case 6:
		slices.Reverse(p.Alphas)
	case 7:
		if mem := r.Intn(len(p.Alphas) + 1); mem < len(p.Alphas) {
			cells := p.Alphas[mem].Cells
			p.Alphas[mem].Cells = append(cells, []int{0, -1, -1 - len(cells)}[r.Intn(3)])
		}
	}
}

// turnNodes changes the nodes' lists.
func turnNodes(r *rand.Rand, p *api.Plan) {
	if len(p.Nodes) == 0 {
		return
	}
	num := r.Intn(len(p.Nodes))
	n := &p.Nodes[num]
	switch r.Intn(8) {
	case 0:
		n.Links = append(n.Links, link(r.Intn(3), r.Intn(3)))
	case 1:
		n.New = append(n.New, r.Intn(3))
	case 2:
		n.Links = n.Links[:r.Intn(len(n.Links)+1)]
	case 3:
		n.New = n.New[:r.Intn(len(n.New)+1)]
	case 4:
		slices.Reverse(n.Links)
	case 5:
		slices.Reverse(n.New)
	case 6:
		p.Nodes = append(p.Nodes, p.Nodes[num])
		p.Ends = append(p.Ends, len(p.Nodes)-1)
	case 7:
		other := r.Intn(len(p.Nodes))
		p.Nodes[num], p.Nodes[other] = p.Nodes[other], p.Nodes[num]
	}
	*p = copied(*p)
}

// planNumbers is where the numbers of a plan stand.
func planNumbers(p *api.Plan) (all []*int) {
	for mem := range p.Alphas {
		all = append(all, &p.Alphas[mem].Pred)
		for place := range p.Alphas[mem].Cells {
			all = append(all, &p.Alphas[mem].Cells[place])
		}
	}
	for num := range p.Nodes {
		n := &p.Nodes[num]
		all = append(all, &n.Kind, &n.Parent, &n.Alpha, &n.Width, &n.Test.Op, &n.Test.Left.N, &n.Test.Right.N)
		for i := range n.Links {
			all = append(all, &n.Links[i].Place, &n.Links[i].Var)
		}
		for i := range n.New {
			all = append(all, &n.New[i])
		}
	}
	for rule := range p.Ends {
		all = append(all, &p.Ends[rule])
	}
	return all
}

func TestCheckOfTurnedPlans(t *testing.T) {
	right := map[int]int{}
	for seed := range int64(25000) {
		r := rand.New(rand.NewSource(seed))
		p := made(t, wildRules(r)...)
		times := 1 + r.Intn(3)
		for range times {
			turnPlan(r, &p)
		}
		want := wellFormed(p)
		wantCheck(t, p, want)
		right[int(want)]++
		if t.Failed() {
			t.Fatalf("with seed %d", seed)
		}
	}
	if right[int(api.OK)] < 1000 || right[int(api.ErrArg)] < 10000 {
		t.Errorf("of the plans so many are right and wrong: %v", right)
	}
}

// Each number of some plans turned to each of some others: what is right then is what is read back.
func TestCheckOfEachNumberTurned(t *testing.T) {
	for seed := range int64(40) {
		p := made(t, wildRules(rand.New(rand.NewSource(seed)))...)
		for at, number := range planNumbers(&p) {
			was := *number
			for _, n := range []int{-9, -3, -2, -1, 0, 1, 2, 3, 4, 5, 7, was - 1, was + 1} {
				*number = n
				if got, want := plan.Check(p), wellFormed(p); got != want {
					t.Fatalf("seed %d, number %d turned to %d: Check(%v) = %d, want %d", seed, at, n, p, got, want)
				}
			}
			*number = was
		}
	}
}

// Plans of nothing but chance.
func TestCheckOfWildPlans(t *testing.T) {
	for seed := range int64(20000) {
		r := rand.New(rand.NewSource(seed))
		var p api.Plan
		for range r.Intn(3) {
			p.Alphas = append(p.Alphas, shape(r.Intn(2), make([]int, r.Intn(3))...))
		}
		for num := range 1 + r.Intn(4) {
			p.Nodes = append(p.Nodes, root())
			if num > 0 {
				p.Nodes[num] = api.Node{Kind: 1 + r.Intn(3), Parent: r.Intn(num), Links: make([]api.Link, r.Intn(2)), New: make([]int, r.Intn(2))}
			}
		}
		p.Ends = make([]int, r.Intn(3))
		for _, number := range planNumbers(&p) {
			if r.Intn(6) == 0 {
				*number = wildNumber(r)
			}
		}
		wantCheck(t, p, wellFormed(p))
		for _, n := range []int{-1, 0, 1, 5} {
			plan.Chain(p, n)
			plan.Kids(p, n)
		}
	}
}

// smallNodes is all nodes with small numbers below one of so many nodes.
func smallNodes(above int) (all []api.Node) {
	for n := range 4 * above * 3 * 3 * 18 {
		node := api.Node{Kind: n % 4, Parent: n / 4 % above, Alpha: n/4/above%3 - 1, Width: n / 12 / above % 3}
		rest := n / 36 / above
		node.Links = [][]api.Link{nil, {link(0, 0)}, {link(0, 1)}}[rest%3]
		node.New = [][]int{nil, {0}, {1}}[rest/3%3]
		node.Test = []api.Test{{}, test(c(0), 1, v(0))}[rest/9]
		all = append(all, node)
	}
	return all
}

// All plans of one node, and all of two whose first one is right, with few shapes and ends.
func TestCheckOfAllSmallPlans(t *testing.T) {
	shapes := [][]api.Shape{nil, {shape(0)}, {shape(0, 0)}, {shape(0, -1)}, {shape(0, -2)}, {shape(0, -1), shape(0, 0)}}
	ends := [][]int{nil, {0}, {1}, {2}, {0, 1}, {1, 2}, {2, 1}}
	rights := []int{}
	begins := [][]api.Node{{root()}}
	for range 2 {
		var longer [][]api.Node
		right := 0
		for _, begin := range begins {
			for _, n := range smallNodes(len(begin) + 1) {
				p := api.Plan{Nodes: append(slices.Clone(begin), n)}
				fits := 0
				for i := range len(shapes) * len(ends) {
					p.Alphas, p.Ends = shapes[i%len(shapes)], ends[i/len(shapes)]
					if want := wellFormed(p); plan.Check(p) != want {
						t.Fatalf("Check(%v) = %d, want %d", p, plan.Check(p), want)
					} else if want == api.OK {
						fits++
					}
				}
				if right += fits; fits > 0 {
					longer = append(longer, p.Nodes)
				}
			}
		}
		begins, rights = longer, append(rights, right)
	}
	if rights[0] == 0 || rights[1] < rights[0] {
		t.Errorf("so many of one node and of two were right: %v", rights)
	}
}
