package agenda

import (
	"cmp"
	"slices"
)

// room is how many keys a block may hold.
const room = 512

// line is keys in order, in blocks one behind the other, so that a key that comes or goes moves few others: a run asks for a pick at each of its steps, and must not sort all that waits each time.
type line struct {
	blocks [][]key // none of them empty
	count  int
}

// block is the number of the block that has a key, or should have it: the last one that does not begin behind it.
func (l *line) block(k key) int {
	num, begins := slices.BinarySearchFunc(l.blocks, k, func(block []key, k key) int { return cmp.Compare(block[0], k) })
	if begins {
		return num
	}
	return max(num-1, 0)
}

// put brings a key in that is not there.
func (l *line) put(k key) {
	l.count++
	if len(l.blocks) == 0 {
		l.blocks = [][]key{{k}}
		return
	}
	num := l.block(k)
	place, _ := slices.BinarySearch(l.blocks[num], k)
	l.blocks[num] = slices.Insert(l.blocks[num], place, k)
	if len(l.blocks[num]) > room {
		l.split(num)
	}
}

// split makes two blocks of one.
func (l *line) split(num int) {
	block := l.blocks[num]
	half := len(block) / 2
	l.blocks = slices.Insert(l.blocks, num+1, slices.Clone(block[half:]))
	l.blocks[num] = slices.Delete(block, half, len(block))
}

// drop takes a key out that is there.
func (l *line) drop(k key) {
	l.count--
	num := l.block(k)
	place, _ := slices.BinarySearch(l.blocks[num], k)
	l.blocks[num] = slices.Delete(l.blocks[num], place, place+1)
	if len(l.blocks[num]) == 0 {
		l.blocks = slices.Delete(l.blocks, num, num+1)
	}
}

// at is the key at a place from 0 to count-1.
func (l *line) at(place int) key {
	num := 0
	for place >= len(l.blocks[num]) {
		place -= len(l.blocks[num])
		num++
	}
	return l.blocks[num][place]
}
