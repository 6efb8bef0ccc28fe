package rete

import (
	"slices"

	"edict/alpha"
	"edict/api"
	"edict/bound"
)

// shape is a shape of the plan, and who asks for its rows.
type shape struct {
	asks  api.Shape
	count int      // how many rows have it
	by    []*index // finds its rows
	nodes []int    // the numbers of its nodes, rising
}

func (s *shape) put(r row, num int) {
	s.count++
	for _, x := range s.by {
		x.put(r.ids[:], num)
	}
}

func (s *shape) drop(r row) {
	s.count--
	for _, x := range s.by {
		x.drop(r.ids[:])
	}
}

// arrival is a row that is to come, with the numbers of its shapes.
type arrival struct {
	row    row
	shapes []int
}

// mayBe tells whether a row may be handed in.
func (n *Net) mayBe(r api.Row) bool {
	if r.Pred < 0 || len(r.Args) > api.MaxArity {
		return false
	}
	return !slices.ContainsFunc(r.Args, func(id int) bool { return id < 0 || id >= len(n.ranks) })
}

// coming is the rows that are not in the memory, each once.
func (n *Net) coming(rows []api.Row) []arrival {
	var list []arrival
	met := map[row]struct{}{}
	for _, r := range rows {
		own := rowOf(r)
		_, known := n.known[own]
		_, twice := met[own]
		if known || twice {
			continue
		}
		met[own] = struct{}{}
		list = append(list, arrival{row: own, shapes: n.shapesOf(r)})
	}
	return list
}

func (n *Net) shapesOf(r api.Row) []int {
	var has []int
	for _, num := range n.of[r.Pred] {
		if alpha.Fits(n.shapes[num].asks, r.Pred, r.Args) {
			has = append(has, num)
		}
	}
	return has
}

// crowded tells whether joins without links alone would have too many tokens behind the rows that come: one for each choice of a row of each shape. So where there are more tokens than can be made, none is.
func (n *Net) crowded(coming []arrival) bool {
	more := map[int]int{}
	for _, a := range coming {
		for _, num := range a.shapes {
			more[num]++
		}
	}
	all := uint64(0)
	for _, way := range n.free {
		tokens := uint64(1)
		for _, num := range way {
			tokens = bound.Mul(tokens, uint64(n.shapes[num].count+more[num]))
		}
		all = bound.Add(all, tokens)
	}
	return all > n.room
}

// bring takes rows in, one behind the other, as long as there is room.
func (n *Net) bring(coming []arrival) bool {
	for _, a := range coming {
		n.keep(a)
		for _, num := range n.nodesOf(a.shapes) {
			if !n.nodes[num].meet(a.row) {
				return false
			}
		}
	}
	return true
}

// keep puts a row into the memory and where it is looked for.
func (n *Net) keep(a arrival) {
	num := len(n.rows)
	n.marks = append(n.marks, len(n.log))
	n.rows = append(n.rows, a.row)
	n.known[a.row] = struct{}{}
	n.note(func() {
		delete(n.known, a.row)
		n.rows, n.marks = n.rows[:num], n.marks[:num]
	})
	for _, of := range a.shapes {
		s := &n.shapes[of]
		s.put(a.row, num)
		n.note(func() { s.drop(a.row) })
	}
}

// nodesOf is the nodes that ask for rows of some shapes, the lowest in the tree first: a node that meets a row finds only tokens above it that were there ahead of the row, for those that the row makes there come down later and find it.
func (n *Net) nodesOf(shapes []int) []int {
	var nums []int
	for _, s := range shapes {
		nums = append(nums, n.shapes[s].nodes...)
	}
	slices.Sort(nums)
	slices.Reverse(nums)
	return nums
}
