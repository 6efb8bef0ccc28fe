package lint

import (
	"strings"

	"edict/api"
)

// nothing is what Other holds where there is no other clause.
const nothing = -1

// findings is what there is to tell of the clauses of a well formed program.
func findings(cs []api.Clause) []api.Finding {
	others := lookAside(inNumbers(cs...))
	unused := firstUnused(cs)
	var all []api.Finding
	for num, c := range cs {
		tell := func(kind int, other int, off int, name string) {
			all = append(all, api.Finding{Kind: kind, Clause: num, Other: other, Off: off, Name: name})
		}
		if others[num].kind != 0 {
			tell(others[num].kind, others[num].clause, c.Head.Off, "")
		}
		if at := firstAtFault(c.Body); at >= 0 {
			tell(api.FNever, nothing, c.Body[at].Off, "")
		}
		for _, t := range singles(c) {
			tell(api.FSingle, nothing, t.Off, t.Text)
		}
		for _, l := range c.Body {
			if idle(l) {
				tell(api.FIdle, nothing, l.Off, "")
			}
		}
		if first, found := unused[c.Head.Pred]; found && first == num {
			tell(api.FUnused, nothing, c.Head.Off, c.Head.Pred)
		}
	}
	return all
}

// aside is why a clause may be left out beside another one: FTwice or FCovered, and the other one's number; kind 0 where it may not.
type aside struct {
	kind   int
	clause int
}

// lookAside holds each clause against all others.
func lookAside(cs []numbered) []aside {
	all := make([]aside, len(cs))
	for num := range cs {
		if other := firstAgain(cs, num); other != nothing {
			all[num] = aside{api.FTwice, other}
		} else if other := firstCover(cs, num); other != nothing {
			all[num] = aside{api.FCovered, other}
		}
	}
	return all
}

// firstAgain is the first clause ahead of a clause that is that one again.
func firstAgain(cs []numbered, num int) int {
	for other := range num {
		if again(cs[other], cs[num]) {
			return other
		}
	}
	return nothing
}

// firstCover is the first clause on whose behalf a clause can be left out. Of two that cover each other that is the one ahead, so that never both go.
func firstCover(cs []numbered, num int) int {
	for other := range cs {
		if other != num && covers(cs[other], cs[num]) && (other < num || !covers(cs[num], cs[other])) {
			return other
		}
	}
	return nothing
}

// singles is the variables that stand just once in a clause and whose names do not say that this is meant.
func singles(c api.Clause) []api.Term {
	terms := termsOf(c)
	counts := map[string]int{}
	for _, t := range terms {
		if t.Kind == api.KVar {
			counts[t.Text]++
		}
	}
	var once []api.Term
	for _, t := range terms {
		if t.Kind == api.KVar && counts[t.Text] == 1 && !strings.HasPrefix(t.Text, blank) {
			once = append(once, t)
		}
	}
	return once
}

// termsOf is all terms of a clause in reading order.
func termsOf(c api.Clause) []api.Term {
	terms := append([]api.Term(nil), c.Head.Args...)
	for _, l := range c.Body {
		if l.Kind == api.LTest {
			terms = append(terms, l.Left, l.Right)
		} else {
			terms = append(terms, l.Atom.Args...)
		}
	}
	return terms
}

// firstUnused is, for each predicate with a rule that stands in no body, the number of its first rule.
func firstUnused(cs []api.Clause) map[string]int {
	first := map[string]int{}
	for num, c := range cs {
		if _, known := first[c.Head.Pred]; !known && len(c.Body) > 0 {
			first[c.Head.Pred] = num
		}
	}
	for _, c := range cs {
		for _, l := range c.Body {
			if l.Kind != api.LTest {
				delete(first, l.Atom.Pred)
			}
		}
	}
	return first
}
