package why

import (
	"strconv"
	"strings"

	"edict/api"
	"edict/print"
	"edict/sym"
)

// lineText is the text of a line with its line end; "" where its fact or a constant that is told has none.
func lineText(num int, l api.Line) string {
	fact := print.Fact(l.Fact)
	if fact == "" {
		return ""
	}
	text := strconv.Itoa(num) + ": " + fact
	if l.Rule == given {
		return text + " given\n"
	}
	var constants, numbers []string
	for _, c := range l.Subst {
		if !sym.Valid(c) {
			return ""
		}
		constants = append(constants, sym.Text(c))
	}
	for _, from := range l.From {
		numbers = append(numbers, strconv.Itoa(from))
	}
	text += " by " + strconv.Itoa(l.Rule) + " {" + strings.Join(constants, ", ") + "}"
	if len(numbers) > 0 {
		text += " from " + strings.Join(numbers, ", ")
	}
	return text + "\n"
}
