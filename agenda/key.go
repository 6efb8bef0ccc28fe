package agenda

import (
	"cmp"
	"slices"

	"edict/api"
	"edict/sym"
)

// key is an act as bytes: its rule's number, then the ranks of its constants, each in digits bytes, the highest first. So acts are in order where their keys are, and one key is one act.
type key string

// digits is enough for any number of things below 2^32: more than there may be.
const digits = 4

// appendNumber is what is written so far, and a number behind it.
func appendNumber(written []byte, n int) []byte {
	for shift := 8 * (digits - 1); shift >= 0; shift -= 8 {
		written = append(written, byte(n>>shift))
	}
	return written
}

// number is the one that is written at a place of a key.
func (k key) number(place int) int {
	n := 0
	for i := range digits {
		n = n<<8 | int(k[digits*place+i])
	}
	return n
}

func (k key) rule() int { return k.number(0) }

// order is that of constants, one that stands twice by its ids.
type order struct {
	ranks []int // by id
	ids   []int // by rank
}

func newOrder(cs []api.Const) order {
	o := order{ranks: make([]int, len(cs)), ids: make([]int, len(cs))}
	for id := range cs {
		o.ids[id] = id
	}
	slices.SortFunc(o.ids, func(a, b int) int { return cmp.Or(sym.Compare(cs[a], cs[b]), cmp.Compare(a, b)) })
	for rank, id := range o.ids {
		o.ranks[id] = rank
	}
	return o
}

// keyOf is the key of an act; false where an id is that of no constant.
func (o order) keyOf(act api.Act) (key, bool) {
	written := appendNumber(make([]byte, 0, digits*(1+len(act.Subst))), act.Rule)
	for _, id := range act.Subst {
		if id < 0 || id >= len(o.ranks) {
			return "", false
		}
		written = appendNumber(written, o.ranks[id])
	}
	return key(written), true
}

// actOf is the act with a key.
func (o order) actOf(k key) api.Act {
	act := api.Act{Rule: k.rule(), Subst: make([]int, len(k)/digits-1)}
	for place := range act.Subst {
		act.Subst[place] = o.ids[k.number(1+place)]
	}
	return act
}
