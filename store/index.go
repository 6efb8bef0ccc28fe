package store

import (
	"slices"

	"edict/api"
)

// cells is a row as a map's key: its predicate, then its args, then zeros.
type cells [1 + api.MaxArity]int

// spot is a predicate, a place of its args, and an id that stands there.
type spot [3]int

func noArity(n int) bool { return n < 0 || n > api.MaxArity }

func noId(id int) bool { return id < 0 }

func empty(arities []int) *Store {
	return &Store{
		arities: slices.Clone(arities),
		nums:    map[cells]int{},
		of:      map[int][]int{},
		where:   map[spot][]int{},
	}
}

func cellsOf(r api.Row) cells {
	c := cells{r.Pred}
	copy(c[1:], r.Args)
	return c
}

// mayBe tells whether a row is one that this store can hold.
func (s *Store) mayBe(r api.Row) bool {
	return r.Pred >= 0 && r.Pred < len(s.arities) &&
		len(r.Args) == s.arities[r.Pred] && !slices.ContainsFunc(r.Args, noId)
}

// rowAt is the row with a number that is there.
func (s *Store) rowAt(num int) api.Row {
	c := s.rows[num]
	return api.Row{Pred: c[0], Args: slices.Clone(c[1 : 1+s.arities[c[0]]])}
}

// spotAt is where a row is found by its arg at a place.
func (c cells) spotAt(place int) spot {
	return spot{c[0], place, c[1+place]}
}

// bring puts in a row that is not in yet, and keeps what takes it out again.
func (s *Store) bring(c cells) {
	num, pred := len(s.rows), c[0]
	s.rows = append(s.rows, c)
	s.births = append(s.births, s.born)
	s.born++
	s.nums[c] = num
	s.of[pred] = append(s.of[pred], num)
	for place := range s.arities[pred] {
		at := c.spotAt(place)
		s.where[at] = append(s.where[at], num)
	}
	s.backs = append(s.backs, func() {
		for place := range s.arities[pred] {
			dropLast(s.where, c.spotAt(place))
		}
		dropLast(s.of, pred)
		delete(s.nums, c)
		s.births = s.births[:num]
		s.rows = s.rows[:num]
	})
}

// dropLast takes the last number out of a key's list, and the list where it was the only one.
func dropLast[K comparable](lists map[K][]int, key K) {
	list := lists[key]
	if len(list) == 1 {
		delete(lists, key)
		return
	}
	lists[key] = list[:len(list)-1]
}

// runBack takes out the rows from number n on, the last first.
func (s *Store) runBack(n int) {
	for last := len(s.backs) - 1; last >= n; last-- {
		s.backs[last]()
		s.backs[last] = nil // else the spare room would hold on to it
		s.backs = s.backs[:last]
	}
}

// firstSince is the number of the first row that came in behind the begun first ones of all time. Births rise with the numbers.
func (s *Store) firstSince(begun int) int {
	num, _ := slices.BinarySearch(s.births, begun)
	return num
}
