package sym

import "iter"

// Ids is a list of different keys; a key's id is its place there, from 0 on.
type Ids[K comparable] struct {
	keys []K
	ids  map[K]int
}

// NewIds is an Ids of these keys.
func NewIds[K comparable](keys ...K) *Ids[K] {
	x := &Ids[K]{ids: map[K]int{}}
	for _, k := range keys {
		x.Intern(k)
	}
	return x
}

// Intern is the id of k, which is put behind all others where it is new.
func (x *Ids[K]) Intern(k K) int {
	if x == nil {
		return 0
	}
	if id, there := x.ids[k]; there {
		return id
	}
	id := len(x.keys)
	x.keys = append(x.keys, k)
	x.ids[k] = id
	return id
}

// Find is the id of k, or -1.
func (x *Ids[K]) Find(k K) int {
	if x == nil {
		return 0
	}
	if id, there := x.ids[k]; there {
		return id
	}
	return -1
}

// At is the key with an id.
func (x *Ids[K]) At(id int) (K, bool) {
	if id < 0 || id >= x.Len() {
		var none K
		return none, false
	}
	return x.keys[id], true
}

// Len tells how many keys there are.
func (x *Ids[K]) Len() int {
	if x == nil {
		return 0
	}
	return len(x.keys)
}

// All is for ranging over ids and keys, by rising ids.
func (x *Ids[K]) All() iter.Seq2[int, K] {
	return func(yield func(int, K) bool) {
		begun := x.Len()
		// Len is asked again each time: who ranges may cut in between.
		for id := 0; id < min(begun, x.Len()); id++ {
			if !yield(id, x.keys[id]) {
				return
			}
		}
	}
}

// Cut forgets the keys from id n on.
func (x *Ids[K]) Cut(n int) {
	n = max(n, 0)
	if n >= x.Len() {
		return
	}
	for _, k := range x.keys[n:] {
		delete(x.ids, k)
	}
	clear(x.keys[n:]) // else the spare room would hold on to what is forgotten
	x.keys = x.keys[:n]
}
