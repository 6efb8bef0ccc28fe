package rete

import (
	"slices"

	"edict/api"
	"edict/sym"
)

// ranksOf tells for each constant how many come ahead of it; false where the list is not fit: a table takes all of a fit one, each with its place as its id.
func ranksOf(cs []api.Const) ([]int, bool) {
	table := sym.New()
	for place, c := range cs {
		if id, e := table.Intern(c); e != api.OK || id != place {
			return nil, false
		}
	}
	return table.Ranks(), true
}

// constantsFit tells whether all constants of a well-formed plan have ids below consts.
func constantsFit(p api.Plan, consts int) bool {
	for _, s := range p.Alphas {
		for _, cell := range s.Cells {
			if cell >= consts {
				return false
			}
		}
	}
	for _, n := range p.Nodes {
		for _, side := range []api.Slot{n.Test.Left, n.Test.Right} {
			if n.Kind == api.NTest && !side.Var && side.N >= consts {
				return false
			}
		}
	}
	return true
}

// builder makes the nodes of a net out of a plan, in the order of their numbers.
type builder struct {
	net       *Net
	cs        []api.Const
	stocks    []*stock    // by node: its own, or that of the next node above that is no negation
	negations []*negation // by node: itself, if it is one
	ways      [][]int     // by node: see way
	rowsBy    map[search]*index
	tokensBy  map[search]*index
}

// search is what an index is for: the rows of a shape, or the tokens of a node, and the places to look at.
type search struct {
	of     int
	count  int
	places [api.MaxArity]int
}

func newBuilder(n *Net, cs []api.Const) *builder {
	return &builder{net: n, cs: slices.Clone(cs), rowsBy: map[search]*index{}, tokensBy: map[search]*index{}}
}

func (b *builder) build(p api.Plan) {
	n := b.net
	for num, s := range p.Alphas {
		n.shapes = append(n.shapes, shape{asks: api.Shape{Pred: s.Pred, Cells: slices.Clone(s.Cells)}})
		n.of[s.Pred] = append(n.of[s.Pred], num)
	}
	for num, node := range p.Nodes {
		n.nodes = append(n.nodes, b.node(num, node))
		n.widths = append(n.widths, node.Width)
		b.ways = append(b.ways, b.way(node))
		if len(b.ways[num]) > 1 { // a join right below the root has a token a row: that is soon seen
			n.free = append(n.free, b.ways[num])
		}
	}
	n.ends = slices.Clone(p.Ends)
	n.rules = make([][]int, len(p.Nodes))
	for rule, end := range p.Ends {
		n.rules[end] = append(n.rules[end], rule)
	}
}

// node makes a node and hangs it below the one above.
func (b *builder) node(num int, n api.Node) node {
	if n.Kind == api.NNeg {
		return b.negation(num, n)
	}
	own := newStock(b.net, num)
	b.stocks = append(b.stocks, own)
	b.negations = append(b.negations, nil)
	if n.Kind == api.NRoot {
		return root{own}
	}
	above := b.stocks[n.Parent]
	var made node
	if n.Kind == api.NJoin {
		left, right := b.indexes(num, n)
		made = &join{stock: own, above: above, left: left, right: right, width: n.Width - len(n.New), fresh: slices.Clone(n.New)}
	} else {
		made = &test{stock: own, cs: b.cs, asks: n.Test, width: n.Width}
	}
	above.kids = append(above.kids, made)
	return made
}

func (b *builder) negation(num int, n api.Node) node {
	left, right := b.indexes(num, n)
	base, above := b.stocks[n.Parent], b.negations[n.Parent]
	made := &negation{net: b.net, num: num, base: base, above: above, left: left, right: right, blocked: map[token]struct{}{}}
	b.stocks = append(b.stocks, base)
	b.negations = append(b.negations, made)
	if above != nil {
		above.kids = append(above.kids, made)
	} else {
		base.kids = append(base.kids, made)
	}
	return made
}

// indexes is what finds the tokens above a node with a shape, and its rows, by its links.
func (b *builder) indexes(num int, n api.Node) (left *index, right *index) {
	var places, variables []int
	for _, l := range n.Links {
		places = append(places, l.Place)
		variables = append(variables, l.Var)
	}
	base, s := b.stocks[n.Parent], &b.net.shapes[n.Alpha]
	s.nodes = append(s.nodes, num)
	return indexOf(b.tokensBy, base.num, variables, &base.by), indexOf(b.rowsBy, n.Alpha, places, &s.by)
}

// indexOf is the index that is for such a search; where there is none yet, a new one, which joins those that are kept up.
func indexOf(made map[search]*index, of int, places []int, kept *[]*index) *index {
	s := search{of: of, count: len(places)}
	copy(s.places[:], places)
	if made[s] == nil {
		made[s] = &index{places: places, found: map[key][]int{}}
		*kept = append(*kept, made[s])
	}
	return made[s]
}

// way is the shapes of a join without links and of all joins above it, if these have none either; else none.
func (b *builder) way(n api.Node) []int {
	if n.Kind != api.NJoin || len(n.Links) > 0 || n.Parent > 0 && len(b.ways[n.Parent]) == 0 {
		return nil
	}
	return append(slices.Clone(b.ways[n.Parent]), n.Alpha)
}
