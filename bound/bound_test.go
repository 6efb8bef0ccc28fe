package bound_test

import (
	"math"
	"math/big"
	"math/rand"
	"reflect"
	"slices"
	"testing"
	"time"

	"edict/api"
	"edict/bound"
	"edict/core"
	"edict/parse"
)

const most = math.MaxUint64

// The model: whole numbers without any bound, cut off at the end alone.

func whole(n uint64) *big.Int { return new(big.Int).SetUint64(n) }

func cut(n *big.Int) uint64 {
	if !n.IsUint64() {
		return most
	}
	return n.Uint64()
}

func modelAdd(a, b uint64) uint64 { return cut(new(big.Int).Add(whole(a), whole(b))) }

func modelMul(a, b uint64) uint64 { return cut(new(big.Int).Mul(whole(a), whole(b))) }

// modelPow multiplies one by one; what is above the greatest uint64 stays there, as a is 2 or more then.
func modelPow(a, n uint64) uint64 {
	if a < 2 && n > 0 {
		return a
	}
	power := whole(1)
	for ; n > 0 && power.IsUint64(); n-- {
		power.Mul(power, whole(a))
	}
	return cut(power)
}

func modelSum(xs []uint64) uint64 {
	sum := whole(0)
	for _, x := range xs {
		sum.Add(sum, whole(x))
	}
	return cut(sum)
}

func wantAdd(t *testing.T, a, b, want uint64) {
	t.Helper()
	if got := bound.Add(a, b); got != want {
		t.Errorf("Add(%d, %d) = %d, want %d", a, b, got, want)
	}
}

func wantMul(t *testing.T, a, b, want uint64) {
	t.Helper()
	if got := bound.Mul(a, b); got != want {
		t.Errorf("Mul(%d, %d) = %d, want %d", a, b, got, want)
	}
}

func wantPow(t *testing.T, a, n, want uint64) {
	t.Helper()
	if got := bound.Pow(a, n); got != want {
		t.Errorf("Pow(%d, %d) = %d, want %d", a, n, got, want)
	}
}

func wantSum(t *testing.T, want uint64, xs ...uint64) {
	t.Helper()
	if got := bound.Sum(xs...); got != want {
		t.Errorf("Sum(%d) = %d, want %d", xs, got, want)
	}
}

func wantFirings(t *testing.T, d int, rules []api.Rule, want uint64) {
	t.Helper()
	if got := bound.Firings(d, rules); got != want {
		t.Errorf("Firings(%d, %d rules) = %d, want %d", d, len(rules), got, want)
	}
}

func wantTokens(t *testing.T, d int, p api.Plan, want uint64) {
	t.Helper()
	if got := bound.Tokens(d, p); got != want {
		t.Errorf("Tokens(%d, %v) = %d, want %d", d, p.Nodes, got, want)
	}
}

// edges is numbers at which a sum or a product turns: powers of 2 and what lies beside them, roots of the greatest number, its divisors.
func edges() []uint64 {
	ns := []uint64{0, 3, 5, 6, 7, 10, 100, 6148914691236517205, 6148914691236517206, 2642245, 2642246, 4294967295, 4294967297, 65535, 65537, 641, 6700417, 28778071877862015}
	for i := range 64 {
		n := uint64(1) << i
		ns = append(ns, n-1, n, n+1, -n, -n-1, most/n)
	}
	slices.Sort(ns)
	return slices.Compact(ns)
}

// P9.1

func TestAdd(t *testing.T) {
	wantAdd(t, 0, 0, 0)
	wantAdd(t, 2, 3, 5)
	wantAdd(t, 18446744073709551614, 1, 18446744073709551615)
	wantAdd(t, 18446744073709551614, 2, 18446744073709551615)
	wantAdd(t, most, 0, most)
	wantAdd(t, 0, most, most)
	wantAdd(t, most, 1, most)
	wantAdd(t, most, most, most)
	wantAdd(t, 1<<63, 1<<63, most)
	wantAdd(t, 1<<63, 1<<63-1, most)
	wantAdd(t, 1<<63, 1<<63-2, most-1)
}

func TestMul(t *testing.T) {
	wantMul(t, 0, 0, 0)
	wantMul(t, 2, 3, 6)
	wantMul(t, 0, most, 0)
	wantMul(t, most, 0, 0)
	wantMul(t, 1, most, most)
	wantMul(t, most, 1, most)
	wantMul(t, most, 2, most)
	wantMul(t, most, most, most)
	wantMul(t, 4294967296, 4294967296, most)
	wantMul(t, 4294967295, 4294967297, most)
	wantMul(t, 4294967295, 4294967296, 18446744069414584320)
	wantMul(t, 4294967297, 4294967297, most)
	wantMul(t, 1<<63, 2, most)
	wantMul(t, 1<<62, 3, 3<<62)
	wantMul(t, 641, 28778071877862016, most)
}

func TestPow(t *testing.T) {
	for a := range uint64(9) {
		wantPow(t, a, 0, 1)
		wantPow(t, a, 1, a)
		wantPow(t, 0, 1+a, 0)
		wantPow(t, 1, a, 1)
	}
	wantPow(t, most, 0, 1)
	wantPow(t, most, 1, most)
	wantPow(t, most, 2, most)
	wantPow(t, most, most, most)
	wantPow(t, 2, 63, 9223372036854775808)
	wantPow(t, 2, 64, most)
	wantPow(t, 3, 40, 12157665459056928801)
	wantPow(t, 3, 41, most)
	wantPow(t, 32768, 4, 1152921504606846976)
	wantPow(t, 32768, 5, most)
	wantPow(t, 65536, 3, 1<<48)
	wantPow(t, 65536, 4, most)
	wantPow(t, 65535, 4, 18445618199572250625)
	wantPow(t, 2642245, 3, 18446724184312856125)
	wantPow(t, 2642246, 3, most)
	wantPow(t, 4294967295, 2, 18446744065119617025)
	wantPow(t, 4294967296, 2, most)
	wantPow(t, 10, 19, 10000000000000000000)
	wantPow(t, 10, 20, most)
	wantPow(t, 1<<63, 1, 1<<63)
}

func TestPairs(t *testing.T) {
	ns := edges()
	for _, a := range ns {
		for _, b := range ns {
			wantAdd(t, a, b, modelAdd(a, b))
			wantMul(t, a, b, modelMul(a, b))
			wantPow(t, a, b, modelPow(a, b))
		}
		for n := range uint64(70) {
			wantPow(t, a, n, modelPow(a, n))
		}
	}
}

// TestRoots is, for every exponent, the greatest number whose power is no more than the greatest uint64, and the one above it.
func TestRoots(t *testing.T) {
	for n := uint64(2); n < 66; n++ {
		low, high := uint64(1), uint64(1)<<32
		for high-low > 1 {
			mid := (low + high) / 2
			if new(big.Int).Exp(whole(mid), whole(n), nil).IsUint64() {
				low = mid
			} else {
				high = mid
			}
		}
		wantPow(t, low, n, new(big.Int).Exp(whole(low), whole(n), nil).Uint64())
		wantPow(t, high, n, most)
	}
}

func TestRandomPairs(t *testing.T) {
	r := rand.New(rand.NewSource(9))
	for range 20000 {
		a, b := r.Uint64()>>r.Intn(64), r.Uint64()>>r.Intn(64)
		wantAdd(t, a, b, modelAdd(a, b))
		wantAdd(t, a, most-a, most)
		wantMul(t, a, b, modelMul(a, b))
		wantPow(t, a, b, modelPow(a, b))
		wantPow(t, a%5000, b%20, modelPow(a%5000, b%20))
		if a > 0 {
			wantMul(t, a, most/a, most/a*a)
			wantMul(t, a, most/a+1, modelMul(a, most/a+1))
		}
	}
}

// soon fails the test where f goes on and on.
func soon(t *testing.T, f func()) {
	t.Helper()
	done := make(chan bool)
	go func() {
		defer close(done)
		f()
	}()
	select {
	case <-done:
	case <-time.After(time.Minute):
		t.Fatal("no end")
	}
}

func TestPowEndsSoon(t *testing.T) {
	soon(t, func() {
		for i := range uint64(20000) {
			n := most - i
			wantPow(t, 0, n, 0)
			wantPow(t, 1, n, 1)
			wantPow(t, 2, n, most)
			wantPow(t, most, n, most)
		}
	})
}

// P9.2

func TestSum(t *testing.T) {
	wantSum(t, 0)
	wantSum(t, 0, []uint64{}...)
	wantSum(t, 0, 0)
	wantSum(t, 7, 7)
	wantSum(t, 6, 1, 2, 3)
	wantSum(t, most, most)
	wantSum(t, most, most, 0)
	wantSum(t, most, 0, most)
	wantSum(t, most, most, 1)
	wantSum(t, most, 1, most, 1)
	wantSum(t, most, most, most, most)
	wantSum(t, most, most-2, 1, 1)
	wantSum(t, most-1, most-3, 1, 1)
	wantSum(t, most, 1<<63, 1<<63, 5)
	wantSum(t, most, 5, 1<<63, 1<<63)
	wantSum(t, most, 1<<63, 1<<62, 1<<62-1)
	wantSum(t, 100000, slices.Repeat([]uint64{1}, 100000)...)
	wantSum(t, most, slices.Repeat([]uint64{1 << 48}, 65536)...)
	wantSum(t, most-1<<48+1, slices.Repeat([]uint64{1 << 48}, 65535)...)
}

func TestSumInAnyOrder(t *testing.T) {
	r := rand.New(rand.NewSource(99))
	for range 5000 {
		xs := make([]uint64, r.Intn(9))
		for i := range xs {
			xs[i] = r.Uint64() >> r.Intn(64)
		}
		want := modelSum(xs)
		for range 4 {
			wantSum(t, want, xs...)
			r.Shuffle(len(xs), func(i, j int) { xs[i], xs[j] = xs[j], xs[i] })
		}
		wantSum(t, most, slices.Insert(xs, r.Intn(len(xs)+1), most)...)
	}
}

// roomy is a list with spare room behind it that is filled.
func roomy[T any](list []T, spare T) []T {
	return append(slices.Clone(list), spare, spare, spare)[:len(list)]
}

func TestSumLeavesItsList(t *testing.T) {
	xs := roomy([]uint64{3, most, 1, 2}, 77)
	before := slices.Clone(xs[:cap(xs)])
	wantSum(t, most, xs...)
	if !slices.Equal(before, xs[:cap(xs)]) {
		t.Errorf("Sum made of its list %d", xs[:cap(xs)])
	}
}

// P9.3

// withVars is rules with these numbers of variables.
func withVars(counts ...int) (rules []api.Rule) {
	for _, n := range counts {
		rules = append(rules, api.Rule{Vars: make([]string, n)})
	}
	return rules
}

func TestFirings(t *testing.T) {
	three := withVars(0, 1, 2)
	wantFirings(t, 3, three, 13)
	wantFirings(t, 0, three, 1)
	wantFirings(t, 1, three, 3)
	wantFirings(t, 10, three, 111)
	wantFirings(t, -1, three, 1)
	wantFirings(t, math.MinInt, three, 1)
	wantFirings(t, 1<<32, three, most)
	wantFirings(t, 1<<32-1, three, 1+(1<<32-1)+(1<<32-1)*(1<<32-1))
	wantFirings(t, math.MaxInt, withVars(0, 1), 1<<63)
	wantFirings(t, math.MaxInt, withVars(1, 0, 1), most)
	wantFirings(t, math.MaxInt, withVars(1, 1), most-1)
	wantFirings(t, math.MaxInt, three, most)
	for _, d := range []int{math.MinInt, -1, 0, 1, 9, math.MaxInt} {
		wantFirings(t, d, nil, 0)
		wantFirings(t, d, []api.Rule{}, 0)
		wantFirings(t, d, withVars(0, 0, 0, 0), 4)
	}
	wantFirings(t, 7, withVars(2, 2), 98)
	wantFirings(t, 2, withVars(16, 3, 16), 131080)
	wantFirings(t, 65536, withVars(3), 1<<48)
	wantFirings(t, 65536, withVars(16), most)
	wantFirings(t, 2, withVars(63), 1<<63)
	wantFirings(t, 2, withVars(64), most)
	wantFirings(t, 1, withVars(70000), 1)
	wantFirings(t, 0, withVars(70000), 0)
	wantFirings(t, 2, withVars(62, 62, 62, 62), most)
	wantFirings(t, 2, withVars(62, 62, 62), 3<<62)
	wantFirings(t, 2, withVars(70000, 0), most)
}

// TestFiringsOfVarsAlone gives rules whose other parts have other variables, or none, or are what may not be.
func TestFiringsOfVarsAlone(t *testing.T) {
	x := api.Slot{Var: true, N: 40}
	wild := api.Pattern{Pred: -7, Args: []api.Slot{x, {Var: true, N: math.MinInt}, {N: -1}}}
	rules := []api.Rule{
		{Head: wild, Pos: []api.Pattern{wild, {}}, Tests: []api.Test{{Op: 99, Left: x}}, Neg: []api.Pattern{wild}, Clause: math.MinInt},
		{Head: wild, Pos: []api.Pattern{wild}, Vars: []string{"", ""}, Clause: -1},
		{Vars: []string{"X", "X", "X"}},
		{Pos: []api.Pattern{{}}, Vars: []string{"_"}},
	}
	wantFirings(t, 5, rules, 1+25+125+5)
	wantFirings(t, 0, rules, 1)
}

// P9.4

func planOf(nodes ...api.Node) api.Plan { return api.Plan{Nodes: nodes} }

// withWidths is a plan with joins of these widths, without a root.
func withWidths(widths ...int) (p api.Plan) {
	for _, w := range widths {
		p.Nodes = append(p.Nodes, api.Node{Kind: api.NJoin, Width: w})
	}
	return p
}

func TestTokens(t *testing.T) {
	example := planOf(api.Node{Kind: api.NRoot}, api.Node{Kind: api.NJoin, Width: 1}, api.Node{Kind: api.NJoin, Width: 2}, api.Node{Kind: api.NTest, Width: 2})
	wantTokens(t, 3, example, 21)
	wantTokens(t, 0, example, 0)
	wantTokens(t, -3, example, 0)
	wantTokens(t, math.MinInt, example, 0)
	wantTokens(t, 1, example, 3)
	wantTokens(t, math.MaxInt, example, most)
	for _, d := range []int{math.MinInt, -1, 0, 1, 9, math.MaxInt} {
		wantTokens(t, d, api.Plan{}, 0)
		wantTokens(t, d, planOf(api.Node{Kind: api.NRoot}), 0)
		wantTokens(t, d, withWidths(0, 0, 0), 3)
		wantTokens(t, d, withWidths(-1, math.MinInt, 0), 3)
	}
	wantTokens(t, math.MaxInt, withWidths(1, 1, 0), most)
	wantTokens(t, math.MaxInt, withWidths(1, 1), most-1)
	wantTokens(t, 1, withWidths(math.MaxInt), 1)
	wantTokens(t, 0, withWidths(math.MaxInt), 0)
	wantTokens(t, 2, withWidths(math.MaxInt, 0), most)
	wantTokens(t, 2, withWidths(63), 1<<63)
	wantTokens(t, 2, withWidths(63, 62, 61, 61), most)
	wantTokens(t, 65536, withWidths(16), most)
	wantTokens(t, 65536, withWidths(3, 3), 1<<49)
	wantTokens(t, 7, withWidths(2, -2, 1), 49+1+7)
}

// TestTokensOfKinds has roots at every place and of every width, and nodes of all other kinds, those too that no plan has.
func TestTokensOfKinds(t *testing.T) {
	root := api.Node{Kind: api.NRoot, Width: 4}
	wantTokens(t, 3, planOf(root, root, root), 0)
	for _, kind := range []int{api.NJoin, api.NTest, api.NNeg, -1, 4, 99, math.MinInt, math.MaxInt} {
		node := api.Node{Kind: kind, Width: 2}
		wantTokens(t, 3, planOf(node), 9)
		wantTokens(t, 3, planOf(root, node, node), 18)
		wantTokens(t, 3, planOf(node, root, node, root), 18)
	}
}

// TestTokensOfWidthsAlone gives plans whose other parts say otherwise, or are what may not be.
func TestTokensOfWidthsAlone(t *testing.T) {
	test := api.Test{Op: 77, Left: api.Slot{Var: true, N: 50}}
	p := api.Plan{
		Alphas: []api.Shape{{Pred: -1, Cells: []int{9, -9}}, {}},
		Nodes: []api.Node{
			{Kind: api.NJoin, Parent: 99, Alpha: -6, Links: []api.Link{{Place: -1, Var: 44}}, New: []int{3, 1, 2}, Test: test, Width: 1},
			{Kind: api.NRoot, Parent: 1, Alpha: 5, Links: []api.Link{{}}, New: []int{0, 1}, Test: test, Width: 9},
			{Kind: api.NTest, Parent: math.MinInt, New: []int{7}, Width: 3},
			{Kind: api.NTest, Parent: math.MinInt, New: []int{7}, Width: 3},
			{Kind: api.NNeg, Parent: -1, Alpha: math.MaxInt, Width: 0},
		},
		Ends: []int{-4, 0, 88},
	}
	wantTokens(t, 5, p, 5+125+125+1)
	wantTokens(t, 0, p, 1)
	wantTokens(t, 5, api.Plan{Alphas: p.Alphas, Ends: p.Ends}, 0)
}

func TestRandomBounds(t *testing.T) {
	r := rand.New(rand.NewSource(999))
	for range 3000 {
		d := int(r.Uint64()>>r.Intn(64)>>1) - r.Intn(3)
		var rules []api.Rule
		var p api.Plan
		var firings, tokens []uint64
		for range r.Intn(6) {
			vars, width, kind := r.Intn(20), r.Intn(22)-2, r.Intn(5)
			rules = append(rules, api.Rule{Vars: make([]string, vars)})
			p.Nodes = append(p.Nodes, api.Node{Kind: kind, Width: width})
			firings = append(firings, modelPow(uint64(max(d, 0)), uint64(vars)))
			if kind != api.NRoot {
				tokens = append(tokens, modelPow(uint64(max(d, 0)), uint64(max(width, 0))))
			}
		}
		wantFirings(t, d, rules, modelSum(firings))
		wantTokens(t, d, p, modelSum(tokens))
	}
}

// TestHandedIn is P2: rules and plans are as they were, the spare room behind their lists too.
func TestHandedIn(t *testing.T) {
	spareRule, spareNode := api.Rule{Clause: 77}, api.Node{Parent: 77}
	makeRules := func() []api.Rule {
		return roomy([]api.Rule{{Vars: roomy([]string{"X", "Y"}, "spare"), Clause: 3}, {}}, spareRule)
	}
	makePlan := func() api.Plan {
		nodes := roomy([]api.Node{{}, {Kind: api.NJoin, New: roomy([]int{0, 1}, 77), Width: -2}}, spareNode)
		return api.Plan{Alphas: roomy([]api.Shape{{Pred: 1}}, api.Shape{Pred: 77}), Nodes: nodes, Ends: roomy([]int{1}, 77)}
	}
	rules, p := makeRules(), makePlan()
	wantFirings(t, 3, rules, 10)
	wantTokens(t, 3, p, 1)
	if !reflect.DeepEqual(rules[:cap(rules)], makeRules()[:cap(rules)]) || rules[0].Vars[:3][2] != "spare" {
		t.Errorf("Firings made of its rules %v", rules[:cap(rules)])
	}
	want := makePlan()
	if !reflect.DeepEqual(p, want) || !reflect.DeepEqual(p.Nodes[:cap(p.Nodes)], want.Nodes[:cap(p.Nodes)]) || p.Nodes[1].New[:3][2] != 77 || p.Alphas[:2][1].Pred != 77 || p.Ends[:2][1] != 77 {
		t.Errorf("Tokens made of its plan %v", p)
	}
}

// The whole's examples: constants and rules as core tells them, the nodes as chapter 11 lays them.

func coreOf(t *testing.T, program, facts string) api.Core {
	t.Helper()
	p, fault := parse.Program(program)
	if fault.Code != api.OK {
		t.Fatalf("%s: %+v", program, fault)
	}
	fs, fault := parse.Facts(facts)
	if fault.Code != api.OK {
		t.Fatalf("%s: %+v", facts, fault)
	}
	c, fault := core.Build(p, fs)
	if fault.Code != api.OK {
		t.Fatalf("%s: %+v", program, fault)
	}
	return c
}

func TestTexts(t *testing.T) {
	c := coreOf(t, `edge(a, b). edge(b, c).
path(X, Y) :- edge(X, Y).
path(X, Z) :- path(X, Y), edge(Y, Z).
node(X) :- edge(X, _).
node(Y) :- edge(_, Y).
apart(X, Y) :- node(X), node(Y), not path(X, Y).`, "")
	wantFirings(t, len(c.Consts), c.Rules, 63)
	join := func(width int) api.Node { return api.Node{Kind: api.NJoin, Width: width} }
	wantTokens(t, len(c.Consts), planOf(api.Node{}, join(2), join(2), join(3), join(1), join(2), api.Node{Kind: api.NNeg, Width: 2}), 66)
	c = coreOf(t, "even(0). even(Y) :- even(X), next(X, Y), X < Y.", "next(0, 2). next(2, 4). next(4, 0).")
	wantFirings(t, len(c.Consts), c.Rules, 9)
	c = coreOf(t, "p :- q. p :- q, not t. r(X) :- s(X, _).", "")
	wantFirings(t, len(c.Consts), c.Rules, 2)
}
