package strata

import (
	"slices"

	"edict/api"
)

// link is all edges from one predicate to another.
type link struct {
	there bool
	neg   bool // one of them is negated
	first int  // the least of their numbers
}

// graph has one link a pair of predicates, so that what is asked of it takes no longer where edges stand often.
type graph struct {
	n     int
	links []link
}

func newGraph(n int, es []api.Edge) graph {
	g := graph{n: n, links: make([]link, n*n)}
	for num, e := range es {
		l := g.link(e.From, e.To)
		if !l.there {
			l.there, l.first = true, num
		}
		l.neg = l.neg || e.Neg
	}
	return g
}

func (g graph) link(from, to int) *link { return &g.links[from*g.n+to] }

func (g graph) leads(from, to int) bool { return g.link(from, to).there }

// filled is n numbers that are all the same.
func filled(n, value int) []int { return slices.Repeat([]int{value}, n) }

// bad is the number of the first negated edge inside a component, or -1.
func (g graph) bad(es []api.Edge) int {
	home := g.homes()
	return slices.IndexFunc(es, func(e api.Edge) bool { return e.Neg && home[e.From] == home[e.To] })
}

// components is all components; of those that hang on none untold, the one with the least predicate is always the next.
func (g graph) components() [][]int {
	home := g.homes()
	members := make([][]int, g.n)
	for p := range g.n {
		members[home[p]] = append(members[home[p]], p)
	}
	waits := g.waits(home)
	var told [][]int
tell:
	for {
		for p := range g.n {
			if len(members[p]) == 0 || waits[p] > 0 {
				continue
			}
			told = append(told, members[p])
			g.release(members[p], home, waits)
			members[p] = nil
			continue tell
		}
		return told
	}
}

// waits is, by a component's home, how many links from other components lead into it.
func (g graph) waits(home []int) []int {
	waits := make([]int, g.n)
	for from := range g.n {
		for to := range g.n {
			if g.leads(from, to) && home[from] != home[to] {
				waits[home[to]]++
			}
		}
	}
	return waits
}

// release takes the links that lead out of a component from what the others wait for.
func (g graph) release(members, home, waits []int) {
	for _, from := range members {
		for to := range g.n {
			if g.leads(from, to) && home[from] != home[to] {
				waits[home[to]]--
			}
		}
	}
}

// levels is the least levels, where no negated edge lies inside a component.
func (g graph) levels() []int {
	levels := make([]int, g.n)
	for _, members := range g.components() {
		least := 0
		for _, p := range members {
			least = max(least, g.asked(p, levels))
		}
		for _, p := range members {
			levels[p] = least
		}
	}
	return levels
}

// asked is the level that the links into a predicate ask for. A link from its own component asks for nothing: no level of that is set yet, and the link is not negated.
func (g graph) asked(to int, levels []int) int {
	level := 0
	for from := range g.n {
		switch l := g.link(from, to); {
		case l.neg:
			level = max(level, levels[from]+1)
		case l.there:
			level = max(level, levels[from])
		}
	}
	return level
}

// shortest is the edges of the shortest walk from one predicate to another that it reaches: of several, the one with the least numbers. From a predicate to itself it has none.
func (g graph) shortest(es []api.Edge, from, goal int) []int {
	far := g.distances(goal)
	var walk []int
	for at := from; at != goal; {
		num := g.nearer(at, far)
		walk = append(walk, num)
		at = es[num].To
	}
	return walk
}

// nearer is the least number of an edge that leads one step nearer to where the distances go, or -1.
func (g graph) nearer(at int, far []int) int {
	least := -1
	for to := range g.n {
		l := g.link(at, to)
		if l.there && far[to] == far[at]-1 && (least < 0 || l.first < least) {
			least = l.first
		}
	}
	return least
}

// distances is, by predicate, of how many edges the shortest walk to goal is; -1 where there is none.
func (g graph) distances(goal int) []int {
	far := filled(g.n, -1)
	far[goal] = 0
	reached := []int{goal}
	for len(reached) > 0 {
		to := reached[0]
		reached = reached[1:]
		for from := range g.n {
			if g.leads(from, to) && far[from] < 0 {
				far[from] = far[to] + 1
				reached = append(reached, from)
			}
		}
	}
	return far
}
