package rete

import (
	"edict/api"
	"edict/match"
)

// node is a kind of node. Rows and tokens are passed down by its calls; each of them answers false as soon as joins and tests have more tokens than there is room for, and makes no more.
type node interface {
	take(t token) bool // a token has come to the node above
	meet(r row) bool   // a row has come that has the node's shape
	tokens() []token   // those it has, in order of coming; its own list, or a new one
}

// stock is the tokens of a node that is no negation, in order of coming. They only grow while rows come: so the last one that came is the first that goes.
type stock struct {
	net  *Net
	num  int
	list []token
	by   []*index // finds those of list, for the kids that link to them
	kids []node
	undo func() // takes the last one out
}

func newStock(n *Net, num int) *stock {
	s := &stock{net: n, num: num}
	s.undo = func() { s.drop() }
	return s
}

// add puts a token in and passes it down.
func (s *stock) add(t token) bool {
	s.put(t)
	s.net.made++
	s.net.note(s.undo)
	return s.net.made <= s.net.room && s.pass(t)
}

func (s *stock) put(t token) {
	for _, x := range s.by {
		x.put(t[:], len(s.list))
	}
	s.list = append(s.list, t)
	s.net.turn(s.num, t, came)
}

func (s *stock) drop() {
	last := len(s.list) - 1
	t := s.list[last]
	s.list = s.list[:last]
	for _, x := range s.by {
		x.drop(t[:])
	}
	s.net.made--
	s.net.turn(s.num, t, went)
}

func (s *stock) pass(t token) bool {
	for _, kid := range s.kids {
		if !kid.take(t) {
			return false
		}
	}
	return true
}

func (s *stock) tokens() []token { return s.list }

// meet: there are no rows with a shape for a node that has none.
func (s *stock) meet(row) bool { return true }

// root is the node that all tokens come from. Its own one is not counted, and never goes.
type root struct{ *stock }

func (r root) take(t token) bool {
	r.put(t)
	return r.pass(t)
}

// join is a node that puts tokens and rows together.
type join struct {
	*stock
	above *stock
	left  *index // the tokens above, by the links' variables
	right *index // the rows of the shape, by the links' places
	width int    // of the tokens above
	fresh []int  // the places of a row that are new variables
}

func (j *join) take(t token) bool {
	for _, num := range j.right.found[j.left.key(t[:])] {
		if !j.add(j.joined(t, j.net.rows[num])) {
			return false
		}
	}
	return true
}

func (j *join) meet(r row) bool {
	for _, num := range j.left.found[j.right.key(r.ids[:])] {
		if !j.add(j.joined(j.above.list[num], r)) {
			return false
		}
	}
	return true
}

func (j *join) joined(t token, r row) token {
	for i, place := range j.fresh {
		t[j.width+i] = r.ids[place]
	}
	return t
}

// test is a node that lets tokens through by themselves.
type test struct {
	*stock
	cs    []api.Const
	asks  api.Test
	width int
}

func (s *test) take(t token) bool {
	if holds, _ := match.Holds(s.cs, s.asks, listOf(t[:s.width])); !holds {
		return true
	}
	return s.add(t)
}
