package agenda

import (
	"slices"
	"testing"
)

// Blocks stay small, so that few keys are moved, and are not so many that going through them is slow.
func TestBlocksOfLines(t *testing.T) {
	const many = 20 * room
	for _, step := range []int{1, many - 1, 3001} { // rising, falling, here and there
		l := &line{}
		for num := range many {
			l.put(key(appendNumber(nil, num*step%many)))
		}
		for _, block := range l.blocks {
			if len(block) == 0 || len(block) > room || !slices.IsSorted(block) {
				t.Errorf("step %d: a block of %d keys, sorted %v", step, len(block), slices.IsSorted(block))
			}
		}
		if len(l.blocks) > 2*many/room || l.count != many {
			t.Errorf("step %d: %d keys in %d blocks", step, l.count, len(l.blocks))
		}
		for num := range many {
			if got := l.at(num).rule(); got != num {
				t.Fatalf("step %d: %d stands at place %d", step, got, num)
			}
		}
		for num := range many {
			l.drop(key(appendNumber(nil, num*step%many)))
		}
		if len(l.blocks) > 0 || l.count != 0 {
			t.Errorf("step %d: %d keys in %d blocks are left", step, l.count, len(l.blocks))
		}
	}
}
