package plan

import (
	"edict/alpha"
	"edict/api"
)

// builder is a plan that grows by one rule after the other.
type builder struct {
	plan   api.Plan
	alphas map[form]int // the numbers of the shapes that are there
	nodes  map[ask]int  // the numbers of the nodes that are there, but the root
}

func newBuilder() *builder {
	root := rootAsk().node(0)
	return &builder{plan: api.Plan{Nodes: []api.Node{root}}, alphas: map[form]int{}, nodes: map[ask]int{}}
}

// add lays the chain of a rule that may be.
func (b *builder) add(r api.Rule) {
	at := 0
	for _, p := range r.Pos {
		at = b.reach(b.patternAsk(api.NJoin, at, p))
	}
	for _, t := range r.Tests {
		at = b.reach(testAsk(at, t))
	}
	for _, p := range r.Neg {
		at = b.reach(b.patternAsk(api.NNeg, at, p))
	}
	b.plan.Ends = append(b.plan.Ends, at)
}

// reach is the number of the node that asks this, which is made if it is not there.
func (b *builder) reach(a ask) int {
	if num, there := b.nodes[a]; there {
		return num
	}
	num := len(b.plan.Nodes)
	b.nodes[a] = num
	b.plan.Nodes = append(b.plan.Nodes, a.node(b.plan.Nodes[a.parent].Width))
	return num
}

// patternAsk is what a pattern asks below a node. Where its variables stand first in it, its shape has a free place.
func (b *builder) patternAsk(kind int, parent int, p api.Pattern) ask {
	s := alpha.Shape(p)
	width := b.plan.Nodes[parent].Width
	a := ask{kind: kind, parent: parent, alpha: b.memory(s)}
	for place, slot := range p.Args {
		switch {
		case !isFree(place, s.Cells[place]):
		case slot.N < width:
			a.link(place, slot.N)
		default:
			a.bind(place)
		}
	}
	return a
}

// memory is the number of a shape, which is put in if it is not there.
func (b *builder) memory(s api.Shape) int {
	f := formOf(s)
	mem, there := b.alphas[f]
	if !there {
		mem = len(b.plan.Alphas)
		b.alphas[f] = mem
		b.plan.Alphas = append(b.plan.Alphas, s)
	}
	return mem
}
