package strata

import "slices"

// walk is a way through a graph that finds its components, each as soon as all of it has been left.
type walk struct {
	graph
	path  []int // from where the walk began to where it is: its own stack, in place of calls
	open  []int // the predicates that were met and whose component isn't known yet, as they were met
	place []int // by predicate: where it stands, or once stood, in open; -1 where it wasn't met yet
	low   []int // by predicate in open: the lowest place there that it is known to reach
	home  []int // by predicate: the least predicate of its component; -1 where that isn't known yet
}

// homes is, by predicate, the least predicate of its component.
func (g graph) homes() []int {
	w := walk{graph: g, place: filled(g.n, -1), low: make([]int, g.n), home: filled(g.n, -1)}
steps:
	for {
		for p := range g.n {
			if w.mayEnter(p) {
				w.enter(p)
				continue steps
			}
		}
		if len(w.path) == 0 {
			break steps
		}
		w.leave()
	}
	return w.home
}

// mayEnter tells whether the walk can go on to a predicate: to a new one, where a link leads there or the walk begins anew.
func (w *walk) mayEnter(p int) bool {
	if w.place[p] >= 0 {
		return false
	}
	return len(w.path) == 0 || w.leads(w.path[len(w.path)-1], p)
}

func (w *walk) enter(p int) {
	w.place[p] = len(w.open)
	w.low[p] = w.place[p]
	w.open = append(w.open, p)
	w.path = append(w.path, p)
}

// leave goes one step back. All that the predicate leads to has been met then, so it is known how low it reaches.
func (w *walk) leave() {
	last := len(w.path) - 1
	at := w.path[last]
	w.path = w.path[:last]
	for to := range w.n {
		if w.leads(at, to) && w.home[to] < 0 {
			w.low[at] = min(w.low[at], w.low[to])
		}
	}
	if w.low[at] == w.place[at] {
		w.settle(w.place[at])
	}
}

// settle makes one component of what is open from a place on: none of it reaches lower.
func (w *walk) settle(place int) {
	members := w.open[place:]
	home := slices.Min(members)
	for _, p := range members {
		w.home[p] = home
	}
	w.open = w.open[:place]
}
