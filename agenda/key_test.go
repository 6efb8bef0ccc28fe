package agenda

import (
	"cmp"
	"math"
	"testing"
)

// Numbers up to the bound of DOC.md's section 'Limits' are kept as they are, and in order: more than a test can have constants for.
func TestNumbersOfKeys(t *testing.T) {
	numbers := []int{0, 1, 127, 128, 255, 256, 1<<15 - 1, 1 << 15, 1<<16 - 1, 1 << 16, 1<<23 + 1, 1<<24 - 1, 1 << 24, 1<<24 + 1, 1 << 30, math.MaxInt32}
	for place, n := range numbers {
		k := key(appendNumber(appendNumber(nil, n), numbers[0]))
		if k.rule() != n || k.number(1) != numbers[0] {
			t.Errorf("%d is written and read as %d, %d", n, k.rule(), k.number(1))
		}
		for other, m := range numbers {
			got := cmp.Compare(k, key(appendNumber(appendNumber(nil, m), numbers[0])))
			if want := cmp.Compare(place, other); got != want {
				t.Errorf("keys of %d and %d compare as %d, want %d", n, m, got, want)
			}
		}
	}
}
