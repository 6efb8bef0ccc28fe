package plan_test

import (
	"math"
	"slices"
	"testing"
	"time"

	"edict/api"
	"edict/plan"
)

// N4: each thing that has to hold, broken alone where that can be.

// sample is a plan with all kinds of nodes:
//
//	0 root
//	1 join 0 under 0 new 0, 2 width 2         q(v0, #4, v1)
//	2 join 1 under 1 link 1=v1 new 0 width 3  r(v2, v1, =0)
//	3 test v2 < #7 under 2 width 3
//	4 neg 2 under 3 link 0=v0, 1=v2 width 3   q(v0, v2)
//	5 neg 2 under 1 link 0=v1, 1=v0 width 2   q(v1, v0)
//	6 test #1 = #2 under 0 width 0
func sample(t *testing.T) api.Plan {
	t.Helper()
	return made(t,
		rule(pat(q, v(0), c(4), v(1)), pat(r, v(2), v(1), v(2)), test(v(2), api.OpLt, c(7)), not(pat(q, v(0), v(2)))),
		rule(pat(q, v(0), c(4), v(1)), not(pat(q, v(1), v(0)))),
		rule(test(c(1), api.OpEq, c(2))),
	)
}

// turns are changes of the sample by name.
type turns map[string]func(p *api.Plan)

func (all turns) want(t *testing.T, want api.Errno) {
	t.Helper()
	for name, turn := range all {
		t.Run(name, func(t *testing.T) { wantTurned(t, sample(t), want, turn) })
	}
}

func TestCheckRoot(t *testing.T) {
	turns{
		"no nodes":  func(p *api.Plan) { p.Nodes = nil },
		"no plan":   func(p *api.Plan) { *p = api.Plan{} },
		"kind":      func(p *api.Plan) { p.Nodes[0].Kind = api.NJoin },
		"parent 0":  func(p *api.Plan) { p.Nodes[0].Parent = 0 },
		"parent -2": func(p *api.Plan) { p.Nodes[0].Parent = -2 },
		"alpha":     func(p *api.Plan) { p.Nodes[0].Alpha = 0 },
		"links":     func(p *api.Plan) { p.Nodes[0].Links = []api.Link{{}} },
		"new":       func(p *api.Plan) { p.Nodes[0].New = []int{0} },
		"test":      func(p *api.Plan) { p.Nodes[0].Test.Right.N = 1 },
		"width":     func(p *api.Plan) { p.Nodes[0].Width = 1 },
		"none left": func(p *api.Plan) { p.Nodes = p.Nodes[1:] },
		"second":    func(p *api.Plan) { p.Nodes[6] = root() },
		"below 0":   func(p *api.Plan) { p.Nodes[6] = api.Node{Kind: api.NRoot, Alpha: -1} },
	}.want(t, api.ErrArg)
	only := api.Plan{Nodes: []api.Node{{Kind: api.NRoot, Parent: -1, Alpha: -1, Links: []api.Link{}, New: []int{}}}, Alphas: []api.Shape{}, Ends: []int{}}
	wantCheck(t, only, api.OK)
}

func TestCheckKinds(t *testing.T) {
	for _, kind := range []int{-1, 4, 7, math.MaxInt, math.MinInt} {
		for num := range 7 {
			wantTurned(t, sample(t), api.ErrArg, func(p *api.Plan) { p.Nodes[num].Kind = kind })
		}
	}
	turns{
		"a join to a negation that binds":   func(p *api.Plan) { p.Nodes[1].Kind = api.NNeg },
		"a join to a test":                  func(p *api.Plan) { p.Nodes[1].Kind = api.NTest },
		"a test to a join":                  func(p *api.Plan) { p.Nodes[6].Kind = api.NJoin },
		"a test to a negation":              func(p *api.Plan) { p.Nodes[6].Kind = api.NNeg },
		"a negation to a join below a test": func(p *api.Plan) { p.Nodes[4].Kind = api.NJoin },
		"a negation to a test":              func(p *api.Plan) { p.Nodes[4].Kind = api.NTest },
	}.want(t, api.ErrArg)
	turns{"a negation to a join below a join": func(p *api.Plan) { p.Nodes[5].Kind = api.NJoin }}.want(t, api.OK)
}

func TestCheckShapes(t *testing.T) {
	turns{
		"predicate":           func(p *api.Plan) { p.Alphas[0].Pred = -1 },
		"least predicate":     func(p *api.Plan) { p.Alphas[0].Pred = math.MinInt },
		"a place ahead":       func(p *api.Plan) { p.Alphas[2].Cells[0] = -2 },
		"like a constant":     func(p *api.Plan) { p.Alphas[0].Cells[2] = -2 },
		"like one like one":   func(p *api.Plan) { p.Alphas[1].Cells = []int{-1, -2, -1, -3} },
		"like no place":       func(p *api.Plan) { p.Alphas[1].Cells[2] = -9 },
		"like the last place": func(p *api.Plan) { p.Alphas[1].Cells[2] = math.MinInt },
		"two the same":        func(p *api.Plan) { p.Alphas = append(p.Alphas, p.Alphas[0]) },
		"one too many":        func(p *api.Plan) { p.Alphas = append(p.Alphas, shape(9)) },
		"one too few":         func(p *api.Plan) { p.Alphas = p.Alphas[:2] },
		"swapped":             func(p *api.Plan) { p.Alphas[0], p.Alphas[1] = p.Alphas[1], p.Alphas[0] },
		"another's cells":     func(p *api.Plan) { p.Alphas[1] = p.Alphas[0] },
	}.want(t, api.ErrArg)
	turns{
		"another predicate":      func(p *api.Plan) { p.Alphas[0].Pred = math.MaxInt },
		"another constant":       func(p *api.Plan) { p.Alphas[0].Cells[1] = math.MaxInt },
		"a constant for a like":  func(p *api.Plan) { p.Alphas[1].Cells[2] = 0 },
		"like another":           func(p *api.Plan) { p.Alphas[1].Cells[2] = -2 },
		"a like for a constant":  func(p *api.Plan) { p.Alphas[0].Cells[1] = -1 },
		"a place more, not free": func(p *api.Plan) { p.Alphas[2].Cells = append(p.Alphas[2].Cells, 0) },
	}.want(t, api.OK)
}

// Two memories of one shape, each with a node of its own: all else is right.
func TestCheckShapesTwice(t *testing.T) {
	p := api.Plan{
		Alphas: []api.Shape{shape(q, 3), shape(q, 4)},
		Nodes:  []api.Node{root(), join(0, 0, 0, nil), join(0, 1, 0, nil)},
		Ends:   []int{1, 2},
	}
	wantTurned(t, p, api.ErrArg, func(p *api.Plan) { p.Alphas[1].Cells[0] = 3 })
	wantTurned(t, p, api.OK, func(p *api.Plan) { p.Alphas[1] = shape(r, 3) })
	wantTurned(t, p, api.OK, func(p *api.Plan) { p.Alphas[1] = shape(q, 3, 0) })
	wantTurned(t, p, api.OK, func(p *api.Plan) { p.Alphas[1] = shape(q) })
}

func TestCheckAlphas(t *testing.T) {
	turns{
		"below 0":           func(p *api.Plan) { p.Nodes[5].Alpha = -1 },
		"no shape":          func(p *api.Plan) { p.Nodes[5].Alpha = 3 },
		"greatest":          func(p *api.Plan) { p.Nodes[5].Alpha = math.MaxInt },
		"least":             func(p *api.Plan) { p.Nodes[4].Alpha = math.MinInt },
		"of a test":         func(p *api.Plan) { p.Nodes[3].Alpha = 0 },
		"of a test, -2":     func(p *api.Plan) { p.Nodes[3].Alpha = -2 },
		"not in turn":       func(p *api.Plan) { p.Alphas[0], p.Alphas[2] = p.Alphas[2], p.Alphas[0] },
		"other free places": func(p *api.Plan) { p.Nodes[5].Alpha = 0 },
	}.want(t, api.ErrArg)
	turns{"another with the same free places": func(p *api.Plan) { p.Nodes[5].Alpha = 1 }}.want(t, api.OK)
	first := api.Plan{
		Alphas: []api.Shape{shape(0), shape(1)},
		Nodes:  []api.Node{root(), join(0, 0, 0, nil), neg(1, 1, 0), neg(1, 0, 0)},
		Ends:   []int{2, 3},
	}
	wantTurned(t, first, api.ErrArg, func(p *api.Plan) { p.Nodes[1].Alpha, p.Nodes[2].Alpha = 1, 0 })
	wantTurned(t, first, api.ErrArg, func(p *api.Plan) { p.Nodes[2].Alpha, p.Nodes[3].Alpha = 0, 0 })
	wantTurned(t, first, api.OK, func(p *api.Plan) { p.Nodes[2].Alpha, p.Nodes[3].Alpha = 0, 1 })
}

func TestCheckParents(t *testing.T) {
	for _, parent := range []int{-1, -2, math.MinInt, math.MaxInt, 7} {
		for num := 1; num < 7; num++ {
			wantTurned(t, sample(t), api.ErrArg, func(p *api.Plan) { p.Nodes[num].Parent = parent })
		}
	}
	turns{
		"itself":                  func(p *api.Plan) { p.Nodes[3].Parent = 3 },
		"a later one":             func(p *api.Plan) { p.Nodes[3].Parent = 4 },
		"a circle":                func(p *api.Plan) { p.Nodes[2].Parent, p.Nodes[3].Parent = 3, 2 },
		"all in circles":          func(p *api.Plan) { p.Nodes[1].Parent, p.Nodes[0].Parent = 1, 1 },
		"a join below a test":     func(p *api.Plan) { p.Nodes[6].Kind = api.NJoin; p.Nodes[6].Parent = 3 },
		"a test below a neg":      func(p *api.Plan) { p.Nodes[6].Parent, p.Nodes[6].Width = 5, 2 },
		"another, as wide as was": func(p *api.Plan) { p.Nodes[6].Parent = 1 },
	}.want(t, api.ErrArg)
	turns{
		"a test below a join": func(p *api.Plan) { p.Nodes[6].Parent, p.Nodes[6].Width = 1, 2 },
		"a test below a test": func(p *api.Plan) { p.Nodes[6].Parent, p.Nodes[6].Width = 3, 3 },
		"a neg below a neg":   func(p *api.Plan) { p.Nodes[5].Parent, p.Nodes[5].Width = 4, 3 },
	}.want(t, api.OK)
}

// What may stand below what, where nothing else hangs on it.
func TestCheckKindsBelowKinds(t *testing.T) {
	of := map[int]api.Node{api.NJoin: join(0, 0, 0, nil), api.NTest: testNode(0, 0, test(c(0), 1, c(0))), api.NNeg: neg(0, 0, 0)}
	for above, upper := range of {
		for below, lower := range of {
			lower.Parent = 1
			p := api.Plan{Nodes: []api.Node{root(), upper, lower}, Ends: []int{2}}
			if above != api.NTest || below != api.NTest {
				p.Alphas = []api.Shape{shape(q)}
			}
			want := api.OK
			if below == api.NJoin && above != api.NJoin || below == api.NTest && above == api.NNeg {
				want = api.ErrArg
			}
			wantCheck(t, p, want)
		}
	}
}

func TestCheckDepth(t *testing.T) {
	for _, kind := range []api.Node{join(0, 0, 0, nil), testNode(0, 0, test(c(0), 1, c(0))), neg(0, 0, 0)} {
		p := api.Plan{Nodes: []api.Node{root()}, Ends: []int{0}}
		if kind.Alpha == 0 {
			p.Alphas = []api.Shape{shape(q)}
		}
		for depth := 1; depth <= api.MaxBody+3; depth++ {
			kind.Parent = depth - 1
			p.Nodes, p.Ends[0] = append(p.Nodes, kind), depth
			want := api.OK
			if depth > api.MaxBody {
				want = api.ErrArg
			}
			wantCheck(t, p, want)
		}
	}
}

func TestCheckPlaces(t *testing.T) {
	turns{
		"a free place nowhere, of New":   func(p *api.Plan) { p.Nodes[2].New = nil },
		"and its width":                  func(p *api.Plan) { p.Nodes[2].New, p.Nodes[2].Width = nil, 2 },
		"a free place nowhere, of Links": func(p *api.Plan) { p.Nodes[4].Links = p.Nodes[4].Links[:1] },
		"a place twice in New":           func(p *api.Plan) { p.Nodes[1].New = []int{0, 0} },
		"a place twice in Links":         func(p *api.Plan) { p.Nodes[5].Links[1].Place = 0 },
		"a place in both":                func(p *api.Plan) { p.Nodes[2].New = []int{0, 1} },
		"a place of a constant in New":   func(p *api.Plan) { p.Nodes[1].New = []int{0, 1, 2} },
		"a place of a constant linked":   func(p *api.Plan) { p.Nodes[1].Links = []api.Link{{Place: 1}} },
		"a place like another in New":    func(p *api.Plan) { p.Nodes[2].New = []int{0, 2} },
		"a place like another linked":    func(p *api.Plan) { p.Nodes[2].Links = append(p.Nodes[2].Links, link(2, 0)) },
		"New falls":                      func(p *api.Plan) { p.Nodes[1].New = []int{2, 0} },
		"Links fall":                     func(p *api.Plan) { slices.Reverse(p.Nodes[4].Links) },
		"a place behind the last in New": func(p *api.Plan) { p.Nodes[1].New[1] = 3 },
		"a place behind the last linked": func(p *api.Plan) { p.Nodes[4].Links[1].Place = 2 },
		"a place below 0 in New":         func(p *api.Plan) { p.Nodes[1].New[0] = -1 },
		"a place below 0 linked":         func(p *api.Plan) { p.Nodes[4].Links[0].Place = -1 },
		"New of a negation": func(p *api.Plan) {
			p.Nodes[5].Links, p.Nodes[5].New, p.Nodes[5].Width = p.Nodes[5].Links[:1], []int{1}, 3
		},
		"New of a negation, not wider": func(p *api.Plan) { p.Nodes[5].Links, p.Nodes[5].New = p.Nodes[5].Links[:1], []int{1} },
		"many links":                   func(p *api.Plan) { p.Nodes[4].Links = slices.Repeat(p.Nodes[4].Links, 1000) },
		"many new places":              func(p *api.Plan) { p.Nodes[1].New = slices.Repeat(p.Nodes[1].New, 1000) },
		"links of a test":              func(p *api.Plan) { p.Nodes[3].Links = []api.Link{{}} },
		"new places of a test":         func(p *api.Plan) { p.Nodes[3].New = []int{0} },
		"links of a test, many":        func(p *api.Plan) { p.Nodes[3].Links = make([]api.Link, 99) },
	}.want(t, api.ErrArg)
	turns{
		"a new place as a link": func(p *api.Plan) { p.Nodes[5].Kind = api.NJoin },
		"empty lists":           func(p *api.Plan) { p.Nodes[3].Links, p.Nodes[3].New, p.Nodes[4].New = []api.Link{}, []int{}, []int{} },
	}.want(t, api.OK)
}

func TestCheckLinkedVariables(t *testing.T) {
	turns{
		"below 0":                 func(p *api.Plan) { p.Nodes[4].Links[0].Var = -1 },
		"least":                   func(p *api.Plan) { p.Nodes[4].Links[0].Var = math.MinInt },
		"not bound yet":           func(p *api.Plan) { p.Nodes[4].Links[0].Var = 3 },
		"bound by the join":       func(p *api.Plan) { p.Nodes[2].Links[0].Var = 2 },
		"greatest":                func(p *api.Plan) { p.Nodes[4].Links[0].Var = math.MaxInt },
		"MaxVars":                 func(p *api.Plan) { p.Nodes[4].Links[0].Var = api.MaxVars },
		"one in two links":        func(p *api.Plan) { p.Nodes[4].Links[1].Var = 0 },
		"one in two, the other's": func(p *api.Plan) { p.Nodes[5].Links[0].Var = 0 },
	}.want(t, api.ErrArg)
	turns{
		"another":    func(p *api.Plan) { p.Nodes[2].Links[0].Var = 0 },
		"another, 4": func(p *api.Plan) { p.Nodes[4].Links[0].Var = 1 },
		"swapped":    func(p *api.Plan) { p.Nodes[4].Links[0].Var, p.Nodes[4].Links[1].Var = 2, 0 },
	}.want(t, api.OK)
}

func TestCheckTests(t *testing.T) {
	for num, want := range map[int]api.Errno{1: api.ErrArg, 2: api.ErrArg, 4: api.ErrArg, 5: api.ErrArg} {
		for _, asked := range []api.Test{{Op: 1}, {Left: c(1)}, {Right: c(1)}, {Left: v(0)}, {Right: v(0)}, test(v(0), 1, v(0))} {
			wantTurned(t, sample(t), want, func(p *api.Plan) { p.Nodes[num].Test = asked })
		}
	}
	for _, bad := range []api.Test{
		{}, test(c(0), 0, c(0)), test(c(0), 7, c(0)), test(c(0), math.MinInt, c(0)), test(c(0), math.MaxInt, c(0)),
		test(c(-1), 1, c(0)), test(c(0), 1, c(-1)), test(v(-1), 1, c(0)), test(c(0), 1, v(-1)), test(v(3), 1, c(0)), test(c(0), 1, v(3)),
		test(v(math.MaxInt), 1, c(0)), test(c(0), 1, c(math.MinInt)),
	} {
		wantTurned(t, sample(t), api.ErrArg, func(p *api.Plan) { p.Nodes[3].Test = bad })
	}
	for op := api.OpEq; op <= api.OpGe; op++ {
		for _, good := range []api.Test{test(v(2), op, v(0)), test(c(0), op, c(math.MaxInt)), test(c(3), op, v(1))} {
			wantTurned(t, sample(t), api.OK, func(p *api.Plan) { p.Nodes[3].Test = good })
		}
	}
	wantTurned(t, sample(t), api.ErrArg, func(p *api.Plan) { p.Nodes[6].Test.Left = v(0) })
}

func TestCheckWidths(t *testing.T) {
	for num := range 7 {
		for _, by := range []int{-1, 1, math.MaxInt, -9} {
			wantTurned(t, sample(t), api.ErrArg, func(p *api.Plan) { p.Nodes[num].Width += by })
		}
	}
	// All widths one more, as if the root had bound one.
	wantTurned(t, sample(t), api.ErrArg, func(p *api.Plan) {
		for num := range p.Nodes {
			p.Nodes[num].Width++
		}
	})
}

// All variables of a plan beyond the greatest width are right but for their number.
func TestCheckGreatestWidth(t *testing.T) {
	eight := []int{0, 1, 2, 3, 4, 5, 6, 7}
	cells := []int{-1, -2, -3, -4, -5, -6, -7, -8}
	p := api.Plan{
		Alphas: []api.Shape{shape(q, cells...)},
		Nodes:  []api.Node{root(), join(0, 0, 8, nil, eight...), join(1, 0, 16, nil, eight...)},
		Ends:   []int{2},
	}
	wantTurned(t, p, api.ErrArg, func(p *api.Plan) {
		p.Nodes, p.Ends[0] = append(p.Nodes, join(2, 0, 24, nil, eight...)), 3
	})
	wantTurned(t, p, api.ErrArg, func(p *api.Plan) {
		p.Alphas = append(p.Alphas, shape(r, -1))
		p.Nodes, p.Ends[0] = append(p.Nodes, join(2, 1, 17, nil, 0)), 3
	})
	wantTurned(t, p, api.OK, func(p *api.Plan) {
		p.Alphas = append(p.Alphas, shape(r, -1))
		p.Nodes, p.Ends[0] = append(p.Nodes, join(2, 1, 16, []api.Link{link(0, 15)})), 3
	})
	nine := api.Plan{
		Alphas: []api.Shape{shape(q, append(cells, -9)...)},
		Nodes:  []api.Node{root(), join(0, 0, 9, nil, append(eight, 8)...)},
		Ends:   []int{1},
	}
	wantCheck(t, nine, api.ErrArg)
	wantCheck(t, api.Plan{Alphas: []api.Shape{shape(q, make([]int, 8)...)}, Nodes: []api.Node{root(), neg(0, 0, 0)}, Ends: []int{1}}, api.OK)
	wantCheck(t, api.Plan{Alphas: []api.Shape{shape(q, make([]int, 9)...)}, Nodes: []api.Node{root(), neg(0, 0, 0)}, Ends: []int{1}}, api.ErrArg)
}

func TestCheckNodesTwice(t *testing.T) {
	p := api.Plan{
		Alphas: []api.Shape{shape(q, -1, -2), shape(r, -1)},
		Nodes: []api.Node{root(), join(0, 0, 2, nil, 0, 1), join(1, 0, 2, []api.Link{link(0, 0), link(1, 1)}), join(1, 0, 2, []api.Link{link(0, 1), link(1, 0)}),
			neg(1, 1, 2, link(0, 0)), neg(1, 1, 2, link(0, 1)), testNode(1, 2, test(v(0), 1, c(1))), testNode(1, 2, test(c(1), 1, v(0))), join(0, 1, 1, nil, 0)},
		Ends: []int{2, 3, 4, 5, 6, 7, 8},
	}
	wantTurned(t, p, api.ErrArg, func(p *api.Plan) { p.Nodes[3].Links = p.Nodes[2].Links })
	wantTurned(t, p, api.ErrArg, func(p *api.Plan) { p.Nodes[5].Links[0].Var = 0 })
	wantTurned(t, p, api.ErrArg, func(p *api.Plan) { p.Nodes[7].Test = p.Nodes[6].Test })
	wantTurned(t, p, api.ErrArg, func(p *api.Plan) { p.Nodes[8] = p.Nodes[1] })
	wantTurned(t, p, api.OK, func(p *api.Plan) { p.Nodes[7].Test.Op = 2 })
	wantTurned(t, p, api.OK, func(p *api.Plan) { p.Nodes[5].Parent = 4 })
	wantTurned(t, p, api.OK, func(p *api.Plan) { p.Nodes[5].Kind = api.NJoin })
}

func TestCheckEnds(t *testing.T) {
	turns{
		"none":                        func(p *api.Plan) { p.Ends = nil },
		"one too few":                 func(p *api.Plan) { p.Ends = p.Ends[:2] },
		"no node":                     func(p *api.Plan) { p.Ends = append(p.Ends, 7) },
		"below 0":                     func(p *api.Plan) { p.Ends = append(p.Ends, -1) },
		"greatest":                    func(p *api.Plan) { p.Ends[0] = math.MaxInt },
		"least":                       func(p *api.Plan) { p.Ends[0] = math.MinInt },
		"a later one ahead":           func(p *api.Plan) { p.Ends[0], p.Ends[1] = 5, 4 },
		"the last ahead":              func(p *api.Plan) { p.Ends[1], p.Ends[2] = 6, 5 },
		"one above the end":           func(p *api.Plan) { p.Ends[0] = 3 },
		"a node's numbers not in run": func(p *api.Plan) { p.Nodes[4].Parent, p.Nodes[4].Links[1].Var, p.Nodes[4].Width = 1, 1, 2 },
	}.want(t, api.ErrArg)
	turns{
		"again":              func(p *api.Plan) { p.Ends = append(p.Ends, 4, 0, 3, 3, 6, 1) },
		"the root ahead":     func(p *api.Plan) { p.Ends = append([]int{0, 0}, p.Ends...) },
		"the way's parts":    func(p *api.Plan) { p.Ends = append([]int{1, 3, 2}, p.Ends...) },
		"again in between":   func(p *api.Plan) { p.Ends = []int{2, 4, 1, 5, 4, 6} },
		"a rule of its half": func(p *api.Plan) { p.Ends = []int{4, 5, 2, 6} },
	}.want(t, api.OK)
	wantCheck(t, api.Plan{Nodes: []api.Node{root()}, Ends: []int{0, 0, 0}}, api.OK)
	wantCheck(t, api.Plan{Nodes: []api.Node{root()}, Ends: []int{0, 1}}, api.ErrArg)
	wantCheck(t, api.Plan{Ends: []int{0}}, api.ErrArg)
	wantCheck(t, api.Plan{Alphas: []api.Shape{shape(q)}, Nodes: []api.Node{root()}}, api.ErrArg)
}

// Plans of many rules, and with many more ends, are compiled and checked at once.
func TestManyRules(t *testing.T) {
	begun := time.Now()
	var rules []api.Rule
	for n := range 20000 {
		rules = append(rules, rule(pat(q, v(0), c(n)), pat(n, v(1), v(0)), test(v(1), api.OpNe, c(n%7)), not(pat(r, v(1)))))
	}
	p := made(t, rules...)
	if len(p.Nodes) != 80001 || len(p.Alphas) != 40001 {
		t.Errorf("%d nodes, %d shapes", len(p.Nodes), len(p.Alphas))
	}
	wantChain(t, p, 19999, 79997, 79998, 79999, 80000)
	deep := made(t, many(16, 0, 0))
	deep.Ends = slices.Repeat([]int{16}, 1000000)
	if e := plan.Check(deep); e != api.OK {
		t.Errorf("Check of a million ends = %d", e)
	}
	if took := time.Since(begun); took > 20*time.Second {
		t.Errorf("took %v", took)
	}
}
