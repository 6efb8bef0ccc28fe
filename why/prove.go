package why

import (
	"edict/api"
	"edict/engine"
	"edict/print"
)

// deepest is how deep hangsOn calls itself: a proof may be deeper than the stack has room for.
const deepest = 1000

// history is how the facts of a memory came there.
type history struct {
	core    api.Core
	memory  []api.Fact
	brought map[string]api.Firing // by a fact's text: the step that brought it; an initial fact has none
}

func newHistory(e *engine.Engine) history {
	h := history{core: e.Core(), memory: e.Facts(), brought: map[string]api.Firing{}}
	for _, step := range e.Log() {
		if step.Fresh {
			h.brought[print.Fact(step.Head)] = step
		}
	}
	return h
}

// prove is the lines of a fact of the memory and of all that it hangs on, in the order in which these came.
func (h history) prove(goal api.Fact) []api.Line {
	wanted := h.hangsOn(print.Fact(goal))
	var lines []api.Line
	there := map[string]int{} // by a fact's text: the number of its line
	for _, f := range h.memory {
		text := print.Fact(f)
		if _, is := wanted[text]; !is {
			continue
		}
		l := api.Line{Fact: f, Rule: given}
		if step, is := h.brought[text]; is {
			l.Rule, l.Subst = step.Rule, step.Subst
		}
		for _, premise := range h.premises(text) {
			l.From = append(l.From, there[premise])
		}
		there[text] = len(lines)
		lines = append(lines, l)
	}
	return lines
}

// premises is the texts of the facts from which the one with this text was derived; none of an initial one. All of them came ahead of it.
func (h history) premises(text string) []string {
	step, is := h.brought[text]
	if !is {
		return nil
	}
	u := under{core: h.core, subst: step.Subst}
	var texts []string
	for _, p := range h.core.Rules[step.Rule].Pos {
		f, _ := u.fact(p)
		texts = append(texts, print.Fact(f))
	}
	return texts
}

// hangsOn is the texts of a fact and of all that it hangs on.
func (h history) hangsOn(goal string) map[string]struct{} {
	met := map[string]struct{}{}
	left := []string{goal} // what is still to be met from the bottom of the stack
	var meet func(text string, depth int)
	meet = func(text string, depth int) {
		if _, is := met[text]; is {
			return
		}
		if depth == deepest {
			left = append(left, text)
			return
		}
		met[text] = struct{}{}
		for _, premise := range h.premises(text) {
			meet(premise, depth+1)
		}
	}
	for len(left) > 0 {
		last := left[len(left)-1]
		left = left[:len(left)-1]
		meet(last, 0)
	}
	return met
}
