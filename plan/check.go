package plan

import (
	"edict/alpha"
	"edict/api"
)

// shapesFit tells whether all shapes may be, each once.
func shapesFit(shapes []api.Shape) bool {
	met := map[form]struct{}{}
	for _, s := range shapes {
		if len(s.Cells) > api.MaxArity || !alpha.Valid(s) {
			return false
		}
		met[formOf(s)] = struct{}{}
	}
	return len(met) == len(shapes)
}

// nodesFit tells whether the first node is the root and all others may stand below nodes ahead of them, each once.
func nodesFit(p api.Plan) bool {
	if len(p.Nodes) == 0 || askOf(p.Nodes[0]) != rootAsk() || p.Nodes[0].Width != 0 {
		return false
	}
	met := map[ask]struct{}{}
	depths := make([]int, len(p.Nodes))
	for num := 1; num < len(p.Nodes); num++ {
		n := p.Nodes[num]
		if n.Parent < 0 || n.Parent >= num || !nodeFits(p.Alphas, p.Nodes[n.Parent], n) {
			return false
		}
		depths[num] = depths[n.Parent] + 1
		if depths[num] > api.MaxBody {
			return false
		}
		met[askOf(n)] = struct{}{}
	}
	return len(met) == len(p.Nodes)-1
}

// nodeFits tells whether a node may stand right below another that may be.
func nodeFits(shapes []api.Shape, above api.Node, n api.Node) bool {
	switch n.Kind {
	case api.NJoin:
		return (above.Kind == api.NRoot || above.Kind == api.NJoin) && patternFits(shapes, above, n)
	case api.NTest:
		return above.Kind != api.NNeg && testFits(above, n)
	case api.NNeg:
		return len(n.New) == 0 && patternFits(shapes, above, n)
	}
	return false
}

// testFits tells whether a node has what a test may have.
func testFits(above api.Node, n api.Node) bool {
	return askOf(n) == testAsk(n.Parent, n.Test) && n.Width == above.Width && isTest(n.Test, n.Width)
}

// patternFits tells whether a node has what a join or a negation may have.
func patternFits(shapes []api.Shape, above api.Node, n api.Node) bool {
	if n.Alpha < 0 || n.Alpha >= len(shapes) || n.Test != (api.Test{}) {
		return false
	}
	return placesFit(shapes[n.Alpha].Cells, n.Links, n.New) && variablesFit(n.Links, above.Width) &&
		n.Width == above.Width+len(n.New) && n.Width <= api.MaxVars
}

// placesFit tells whether the free places, and no others, stand in the links and the new places, each once, rising.
func placesFit(cells []int, links []api.Link, places []int) bool {
	for place, cell := range cells {
		switch {
		case !isFree(place, cell):
		case len(links) > 0 && links[0].Place == place:
			links = links[1:]
		case len(places) > 0 && places[0] == place:
			places = places[1:]
		default:
			return false
		}
	}
	return len(links)+len(places) == 0
}

// variablesFit tells whether each link has a variable of its own among so many, which are MaxVars at most.
func variablesFit(links []api.Link, width int) bool {
	var linked [api.MaxVars]bool
	for _, l := range links {
		if l.Var < 0 || l.Var >= width || linked[l.Var] {
			return false
		}
		linked[l.Var] = true
	}
	return true
}

// alphasCome tells whether the shapes stand in the order in which the nodes, which all fit, first ask for them, and no others do.
func alphasCome(p api.Plan) bool {
	come := 0
	for _, n := range p.Nodes {
		if n.Alpha > come {
			return false
		}
		if n.Alpha == come {
			come++
		}
	}
	return come == len(p.Alphas)
}

// endsFit tells whether the rules' ways reach the nodes, which all fit, in the order of their numbers, and reach all.
func endsFit(p api.Plan) bool {
	// A parent has a lower number: so what a way reaches first is a run of numbers, each the parent of the next.
	reached := 1
	for _, end := range p.Ends {
		if end < 0 || end >= len(p.Nodes) {
			return false
		}
		for num := end; num > reached; num-- {
			if p.Nodes[num].Parent != num-1 {
				return false
			}
		}
		reached = max(reached, end+1)
	}
	return reached == len(p.Nodes)
}
