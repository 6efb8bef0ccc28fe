package lint

import (
	"strconv"
	"strings"

	"edict/api"
	"edict/lex"
)

// writeLine writes a message with its place in the source ahead.
func writeLine(to *strings.Builder, src string, off int, message string) {
	line, column := lex.Place(src, off)
	to.WriteString(strconv.Itoa(line))
	to.WriteByte(':')
	to.WriteString(strconv.Itoa(column))
	to.WriteString(": ")
	to.WriteString(message)
	to.WriteByte('\n')
}

// messageOf is a finding in words; "" of a kind that is none.
func messageOf(f api.Finding) string {
	clause, other := "clause "+strconv.Itoa(f.Clause), "clause "+strconv.Itoa(f.Other)
	switch f.Kind {
	case api.FTwice:
		return clause + " is " + other + " again"
	case api.FCovered:
		return clause + " is covered by " + other
	case api.FNever:
		return clause + " never fires"
	case api.FSingle:
		return "variable " + f.Name + " stands once"
	case api.FIdle:
		return "the test always holds"
	case api.FUnused:
		return "predicate " + f.Name + " is used nowhere"
	}
	return ""
}
