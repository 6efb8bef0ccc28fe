package rete

import "edict/api"

// token is a substitution, by the variables' numbers: as many places count as the node that has it is wide. An id is below MaxConsts, so it has room in 16 bits.
type token [api.MaxVars]uint16

// row is a row of the memory. Both are arrays, so that they can be keys.
type row struct {
	pred   int
	places int
	ids    [api.MaxArity]uint16
}

// rowOf is a row that may be.
func rowOf(r api.Row) row {
	own := row{pred: r.Pred, places: len(r.Args)}
	for place, id := range r.Args {
		own.ids[place] = uint16(id)
	}
	return own
}

func listOf(ids []uint16) []int {
	list := make([]int, len(ids))
	for place, id := range ids {
		list[place] = int(id)
	}
	return list
}

// key is what a row, or a token, holds at the places that links tie together.
type key [api.MaxArity]uint16

// index finds rows, or tokens, by what they hold at some places: their numbers, rising.
type index struct {
	places []int
	found  map[key][]int
}

func (x *index) key(ids []uint16) key {
	var k key
	for i, place := range x.places {
		k[i] = ids[place]
	}
	return k
}

// put takes in the next one.
func (x *index) put(ids []uint16, num int) {
	k := x.key(ids)
	x.found[k] = append(x.found[k], num)
}

// drop forgets the one that came last, which holds ids.
func (x *index) drop(ids []uint16) {
	k := x.key(ids)
	rest := x.found[k][:len(x.found[k])-1]
	if len(rest) == 0 {
		delete(x.found, k)
		return
	}
	x.found[k] = rest
}
