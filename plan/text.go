package plan

import (
	"strconv"
	"strings"

	"edict/api"
)

func shapeLine(mem int, s api.Shape) string {
	return "alpha " + strconv.Itoa(mem) + " " + strconv.Itoa(s.Pred) + "(" + listed(s.Cells, cellWord) + ")\n"
}

func nodeLine(num int, n api.Node) string {
	line := "node " + strconv.Itoa(num)
	if n.Kind == api.NRoot {
		return line + " root\n"
	}
	line += " " + asked(n) + " under " + strconv.Itoa(n.Parent)
	if len(n.Links) > 0 {
		line += " link " + listed(n.Links, linkWord)
	}
	if len(n.New) > 0 {
		line += " new " + listed(n.New, placeWord)
	}
	return line + " width " + strconv.Itoa(n.Width) + "\n"
}

func endLine(rule int, end int) string {
	return "rule " + strconv.Itoa(rule) + " at " + strconv.Itoa(end) + "\n"
}

// asked is the words for a node's kind, and for its memory or its test.
func asked(n api.Node) string {
	switch n.Kind {
	case api.NJoin:
		return "join " + strconv.Itoa(n.Alpha)
	case api.NNeg:
		return "neg " + strconv.Itoa(n.Alpha)
	}
	return "test " + slotWord(n.Test.Left) + " " + opWord(n.Test.Op) + " " + slotWord(n.Test.Right)
}

// listed is the words for a list's elements and their places, with a comma and a blank between each two.
func listed[T any](list []T, word func(place int, element T) string) string {
	words := make([]string, 0, len(list))
	for place, element := range list {
		words = append(words, word(place, element))
	}
	return strings.Join(words, ", ")
}

func cellWord(place int, cell int) string {
	switch {
	case cell >= 0:
		return "#" + strconv.Itoa(cell)
	case isFree(place, cell):
		return "*"
	}
	return "=" + strconv.Itoa(-1-cell)
}

func linkWord(_ int, l api.Link) string {
	return strconv.Itoa(l.Place) + "=v" + strconv.Itoa(l.Var)
}

func placeWord(_ int, place int) string { return strconv.Itoa(place) }

func slotWord(slot api.Slot) string {
	if slot.Var {
		return "v" + strconv.Itoa(slot.N)
	}
	return "#" + strconv.Itoa(slot.N)
}

// opWord is how the language writes a comparison.
func opWord(op int) string {
	switch op {
	case api.OpEq:
		return "="
	case api.OpNe:
		return "!="
	case api.OpLt:
		return "<"
	case api.OpLe:
		return "<="
	case api.OpGt:
		return ">"
	}
	return ">="
}
