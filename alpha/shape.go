package alpha

import (
	"strconv"

	"edict/api"
)

// noShape is what a pattern without a shape has.
func noShape() api.Shape { return api.Shape{Pred: -1} }

// like is the cell that asks for the same as at a place; and of such a cell, the place.
func like(n int) int { return -1 - n }

// firstPlace is where a variable stood first; where it has not stood yet, this place.
func firstPlace(first map[int]int, variable int, place int) int {
	if _, stood := first[variable]; !stood {
		first[variable] = place
	}
	return first[variable]
}

// fitCells tells whether args are what the cells of a valid shape ask for.
func fitCells(cells []int, args []int) bool {
	if len(args) != len(cells) {
		return false
	}
	for place, cell := range cells {
		if cell < 0 {
			cell = args[like(cell)]
		}
		if args[place] != cell {
			return false
		}
	}
	return true
}

// meeting is the shapes that were met, by their texts: a shape has a list, and so cannot be a key itself.
type meeting map[string]struct{}

// isNew tells whether a shape is met for the first time.
func (m meeting) isNew(s api.Shape) bool {
	text := textOf(s)
	if _, met := m[text]; met {
		return false
	}
	m[text] = struct{}{}
	return true
}

func textOf(s api.Shape) string {
	text := strconv.AppendInt(nil, int64(s.Pred), 10)
	for _, cell := range s.Cells {
		text = strconv.AppendInt(append(text, ' '), int64(cell), 10)
	}
	return string(text)
}
