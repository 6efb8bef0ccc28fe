package sym

import (
	"slices"

	"edict/api"
)

// Table is the Ids of constants; its own Intern takes valid ones alone.
type Table struct {
	Ids[api.Const]
}

// New is a table with no constant.
func New() *Table {
	return &Table{Ids: *NewIds[api.Const]()}
}

// Intern is the id of c, which is put behind all others where it is new.
func (t *Table) Intern(c api.Const) (int, api.Errno) {
	if t == nil {
		return 0, api.OK
	}
	if !Valid(c) {
		return 0, api.ErrConst
	}
	if id := t.Find(c); id >= 0 {
		return id, api.OK
	}
	if t.Len() >= api.MaxConsts {
		return 0, api.ErrFull
	}
	return t.Ids.Intern(c), api.OK
}

// Const is the constant with an id.
func (t *Table) Const(id int) (api.Const, api.Errno) {
	if t == nil {
		return api.Const{}, api.OK
	}
	c, there := t.At(id)
	if !there {
		return api.Const{}, api.ErrArg
	}
	return c, api.OK
}

// Sorted is all ids in the order of their constants.
func (t *Table) Sorted() []int {
	if t == nil {
		return nil
	}
	ids := make([]int, 0, t.Len())
	for id := range t.All() {
		ids = append(ids, id)
	}
	slices.SortFunc(ids, func(a, b int) int {
		return Compare(t.keys[a], t.keys[b])
	})
	return ids
}

// Ranks tells for each id how many constants come ahead of its own.
func (t *Table) Ranks() []int {
	sorted := t.Sorted()
	ranks := make([]int, len(sorted))
	for rank, id := range sorted { // no two constants are the same, so a place is a rank
		ranks[id] = rank
	}
	return ranks
}
