package shell

import (
	"math"
	"strconv"
	"strings"
)

const greatest = "18446744073709551615" // of uint64

// amount is a budget: digits, or the word that stands for the most that digits can say.
func amount(word string) (uint64, bool) {
	switch word {
	case "max":
		word = greatest
		fallthrough
	default:
		return digits(word, len(greatest))
	}
}

// pick is an int64: digits with or without a sign ahead.
func pick(word string) (int, bool) {
	sign, top := 1, uint64(math.MaxInt64)
	switch {
	case strings.HasPrefix(word, "-"):
		sign, top, word = -1, top+1, word[1:] // below 0 int64 goes one further
		fallthrough
	default:
		n, ok := digits(word, 19)
		if !ok || n > top {
			return 0, false
		}
		return sign * int(n), true
	}
}

// small is a limit or a rule's number.
func small(word string) (int, bool) {
	n, ok := digits(word, 9)
	return int(n), ok
}

// digits is the value of 1 to most digits, zeros ahead too.
func digits(word string, most int) (uint64, bool) {
	if len(word) > most {
		return 0, false
	}
	n, err := strconv.ParseUint(word, 10, 64) // takes digits alone, and at least one
	return n, err == nil
}
