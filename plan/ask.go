package plan

import "edict/api"

// ask is what a node asks. It has arrays for lists, so that two are compared whole and one can be a map's key.
type ask struct {
	kind   int
	parent int
	alpha  int
	test   api.Test
	linked int // how many links there are
	links  [api.MaxArity]api.Link
	fresh  int // how many new places there are
	places [api.MaxArity]int
}

// rootAsk is what the root asks: nothing.
func rootAsk() ask { return ask{kind: api.NRoot, parent: -1, alpha: -1} }

// testAsk is what a test asks below a node.
func testAsk(parent int, t api.Test) ask {
	return ask{kind: api.NTest, parent: parent, alpha: -1, test: t}
}

// askOf is what a node asks. Where it has more links or new places than a row can have places, it is still told how many, but not which.
func askOf(n api.Node) ask {
	a := ask{kind: n.Kind, parent: n.Parent, alpha: n.Alpha, test: n.Test, linked: len(n.Links), fresh: len(n.New)}
	copy(a.links[:], n.Links)
	copy(a.places[:], n.New)
	return a
}

// link asks that a place holds what a variable holds.
func (a *ask) link(place int, variable int) {
	a.links[a.linked] = api.Link{Place: place, Var: variable}
	a.linked++
}

// bind makes what a place holds the next variable.
func (a *ask) bind(place int) {
	a.places[a.fresh] = place
	a.fresh++
}

// node is the node that asks this, below a node of that width.
func (a ask) node(width int) api.Node {
	return api.Node{
		Kind:   a.kind,
		Parent: a.parent,
		Alpha:  a.alpha,
		Links:  append([]api.Link(nil), a.links[:a.linked]...),
		New:    append([]int(nil), a.places[:a.fresh]...),
		Test:   a.test,
		Width:  width + a.fresh,
	}
}

// form is a shape with an array for its list, so that it can be a map's key.
type form struct {
	pred   int
	places int
	cells  [api.MaxArity]int
}

// formOf is the form of a shape with no more cells than a row has places.
func formOf(s api.Shape) form {
	f := form{pred: s.Pred, places: len(s.Cells)}
	copy(f.cells[:], s.Cells)
	return f
}

// isFree tells whether a cell asks nothing of its place.
func isFree(place int, cell int) bool { return cell == -1-place }
