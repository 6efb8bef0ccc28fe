package rete

import (
	"cmp"
	"slices"

	"edict/api"
)

// Ways in which a token turns.
const (
	came = 1
	went = -1
)

// spot is a token at a node.
type spot struct {
	num   int
	token token
}

// turn writes down that a token came to a node or went from it, where rules end there. What turns twice is as it was when Changes was last called.
func (n *Net) turn(num int, t token, way int) {
	if len(n.rules[num]) == 0 {
		return
	}
	s := spot{num: num, token: t}
	if _, is := n.turned[s]; is {
		delete(n.turned, s)
		return
	}
	n.turned[s] = way
}

// told is the changes of the conflict set that are written down, and forgets them.
func (n *Net) told() []api.Change {
	var changes []api.Change
	for s, way := range n.turned {
		for _, rule := range n.rules[s.num] {
			act := api.Act{Rule: rule, Subst: listOf(s.token[:n.widths[s.num]])}
			changes = append(changes, api.Change{Came: way == came, Act: act})
		}
	}
	n.turned = map[spot]int{}
	slices.SortFunc(changes, func(a, b api.Change) int {
		return cmp.Or(cmp.Compare(a.Act.Rule, b.Act.Rule), n.compare(a.Act.Subst, b.Act.Subst))
	})
	return changes
}

// sorted is the tokens of a node as lists, in order.
func (n *Net) sorted(num int) [][]int {
	tokens := n.nodes[num].tokens()
	subs := make([][]int, 0, len(tokens))
	for _, t := range tokens {
		subs = append(subs, listOf(t[:n.widths[num]]))
	}
	slices.SortFunc(subs, n.compare)
	return subs
}

// compare is the order of two lists of ids of one length, by their constants.
func (n *Net) compare(a, b []int) int {
	return slices.CompareFunc(a, b, func(x, y int) int { return cmp.Compare(n.ranks[x], n.ranks[y]) })
}
