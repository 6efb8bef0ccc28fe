package why

import "edict/api"

// rows is the rows of a memory as lists of ids, by predicate; as far as somebody asked, by what they hold at a place too.
type rows struct {
	of   map[int][][]int
	held map[place]map[int][][]int
}

type place struct{ pred, num int }

func newRows(all []api.Row) rows {
	x := rows{of: map[int][][]int{}, held: map[place]map[int][][]int{}}
	for _, r := range all {
		x.of[r.Pred] = append(x.of[r.Pred], r.Args)
	}
	return x
}

// at is the predicate's rows that hold an id at a place.
func (x rows) at(p place, id int) [][]int {
	byID, asked := x.held[p]
	if !asked {
		byID = map[int][][]int{}
		for _, args := range x.of[p.pred] {
			byID[args[p.num]] = append(byID[args[p.num]], args)
		}
		x.held[p] = byID
	}
	return byID[id]
}

// mayBe is rows among which are all that a pattern is under sub: the shortest list that there is for one of its places.
func (x rows) mayBe(p api.Pattern, sub []int) [][]int {
	few := x.of[p.Pred]
	for num, slot := range p.Args {
		id := slot.N
		if slot.Var {
			id = sub[slot.N]
		}
		if id == unbound {
			continue
		}
		if held := x.at(place{p.Pred, num}, id); len(held) < len(few) {
			few = held
		}
	}
	return few
}
