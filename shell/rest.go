package shell

import "strings"

// request is the rest of a line, read: each command looks at its own part of it.
type request struct {
	text  string // what is taken as it stands
	num   int    // a limit's or a rule's number
	steps uint64
	mem   uint64
	picks []int
}

// The readers of a rest answer false where it is wrong; more tells an empty rest from none.

func nothing(_ string, more bool) (request, bool) {
	return request{}, !more
}

func anything(rest string, _ bool) (request, bool) {
	return request{text: rest}, true
}

// limitAndQuery needs its second blank: behind it the query's text begins, however short.
func limitAndQuery(rest string, _ bool) (request, bool) {
	limit, text, cut := strings.Cut(rest, " ")
	num, ok := small(limit)
	return request{num: num, text: text}, ok && cut
}

// ruleAndConstants leaves the constants unread: whether they are right is asked behind whether there is an engine.
func ruleAndConstants(rest string, _ bool) (request, bool) {
	rule, text, _ := strings.Cut(rest, " ")
	num, ok := small(rule)
	return request{num: num, text: text}, ok
}

func budgetsAndPicks(rest string, _ bool) (request, bool) {
	words := strings.Split(rest, " ")
	if len(words) < 2 {
		return request{}, false
	}
	steps, stepsOk := amount(words[0])
	mem, memOk := amount(words[1])
	r := request{steps: steps, mem: mem}
	for _, w := range words[2:] {
		p, ok := pick(w)
		if !ok {
			return request{}, false
		}
		r.picks = append(r.picks, p)
	}
	return r, stepsOk && memOk
}
