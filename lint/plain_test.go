package lint_test

import (
	"fmt"
	"slices"

	"edict/api"
	"edict/print"
	"edict/sym"
)

// Plain calls by the chapter's words.

// thing is a term of a clause as Covers takes it: without its offset, each _ a thing of its own.
type thing struct {
	api.Term
	blank int
}

// things is a clause in things: the head, then the literals, each with what else it must have in common with another one.
func things(c api.Clause) (parts [][]thing, looks []string) {
	blanks := 0
	add := func(look string, ts ...api.Term) {
		part := []thing{}
		for _, t := range ts {
			t.Off = 0
			x := thing{Term: t}
			if t.Kind == api.KVar && t.Text == "_" {
				blanks++
				x.blank = blanks
			}
			part = append(part, x)
		}
		parts, looks = append(parts, part), append(looks, fmt.Sprint(look, " ", len(part)))
	}
	add("head "+c.Head.Pred, c.Head.Args...)
	for _, l := range c.Body {
		if l.Kind == api.LTest {
			add(fmt.Sprint("test ", l.Op), l.Left, l.Right)
		} else {
			add(fmt.Sprint(l.Kind, " ", l.Atom.Pred), l.Atom.Args...)
		}
	}
	return parts, looks
}

// plainCovers goes through all ways to take literals of b for those of a, and looks of each whether terms of b in place of a's variables make it so.
func plainCovers(a api.Clause, b api.Clause) bool {
	if len(a.Body) > 6 {
		return false
	}
	ofA, looksA := things(a)
	ofB, looksB := things(b)
	var rest func(at int, taken []int) bool
	rest = func(at int, taken []int) bool {
		if at == len(ofA) {
			return stands(ofA, ofB, taken)
		}
		for num := range ofB {
			if looksA[at] == looksB[num] && rest(at+1, append(taken[:at:at], num)) {
				return true
			}
		}
		return false
	}
	return rest(0, nil)
}

// stands tells whether one term for each variable makes all parts of a those of b that were taken for them.
func stands(a [][]thing, b [][]thing, taken []int) bool {
	terms := map[thing]thing{}
	for at, part := range a {
		for place, x := range part {
			want := b[taken[at]][place]
			if x.Kind != api.KVar {
				terms[x] = x
			} else if _, known := terms[x]; !known {
				terms[x] = want
			}
			if terms[x] != want {
				return false
			}
		}
	}
	return true
}

// plainAgain goes through both clauses side by side.
func plainAgain(a api.Clause, b api.Clause) bool {
	partsA, looksA := things(a)
	partsB, looksB := things(b)
	if !slices.Equal(looksA, looksB) {
		return false
	}
	there, back := map[string]string{}, map[string]string{}
	for at, part := range partsA {
		for place, x := range part {
			y := partsB[at][place]
			switch {
			case x.Kind != api.KVar || y.Kind != api.KVar || x.blank > 0 || y.blank > 0:
				if x != y {
					return false
				}
			case there[x.Text] == "" && back[y.Text] == "":
				there[x.Text], back[y.Text] = y.Text, x.Text
			case there[x.Text] != y.Text || back[y.Text] != x.Text:
				return false
			}
		}
	}
	return true
}

// truth is 1 of a test that always holds, -1 of one that never does.
func truth(l api.Literal) int {
	if l.Kind != api.LTest {
		return 0
	}
	order := sym.Compare(api.Const{Kind: l.Left.Kind, Int: l.Left.Int, Text: l.Left.Text}, api.Const{Kind: l.Right.Kind, Int: l.Right.Int, Text: l.Right.Text})
	if l.Left.Kind == api.KVar || l.Right.Kind == api.KVar {
		if order != 0 || l.Left.Text == "_" {
			return 0
		}
	}
	if slices.Contains([][]int{1: {0}, 2: {-1, 1}, 3: {-1}, 4: {-1, 0}, 5: {1}, 6: {1, 0}}[l.Op], order) {
		return 1
	}
	return -1
}

func atFault(c api.Clause) int {
	for at, l := range c.Body {
		if truth(l) < 0 {
			return at
		}
		for _, other := range c.Body {
			text := print.Atom(l.Atom) // two atoms without a _ are the same just if their texts are
			if l.Kind == api.LNeg && other.Kind == api.LPos && print.Atom(other.Atom) == text && !slices.ContainsFunc(l.Atom.Args, func(t api.Term) bool { return t.Kind == api.KVar && t.Text == "_" }) {
				return at
			}
		}
	}
	return -1
}

func plainTwice(p api.Program, i int) int {
	return slices.IndexFunc(p.Clauses[:i], func(c api.Clause) bool { return plainAgain(c, p.Clauses[i]) })
}

func plainCovered(p api.Program, i int) int {
	if plainTwice(p, i) >= 0 {
		return -1
	}
	for j, c := range p.Clauses {
		if j != i && plainCovers(c, p.Clauses[i]) && (!plainCovers(p.Clauses[i], c) || j < i) {
			return j
		}
	}
	return -1
}

func bodies(p api.Program) (preds []string) {
	for _, c := range p.Clauses {
		for _, l := range c.Body {
			if l.Kind != api.LTest {
				preds = append(preds, l.Atom.Pred)
			}
		}
	}
	return preds
}

func plainLook(p api.Program) (all []api.Finding) {
	for i, c := range p.Clauses {
		if j := plainTwice(p, i); j >= 0 {
			all = append(all, api.Finding{Kind: api.FTwice, Clause: i, Other: j, Off: c.Head.Off})
		}
		if j := plainCovered(p, i); j >= 0 {
			all = append(all, api.Finding{Kind: api.FCovered, Clause: i, Other: j, Off: c.Head.Off})
		}
		if at := atFault(c); at >= 0 {
			all = append(all, api.Finding{Kind: api.FNever, Clause: i, Other: -1, Off: c.Body[at].Off})
		}
		eachTerm(c, func(_ *api.Literal, t *api.Term) {
			count := 0
			eachTerm(c, func(_ *api.Literal, other *api.Term) {
				if other.Kind == api.KVar && other.Text == t.Text {
					count++
				}
			})
			if t.Kind == api.KVar && t.Text[0] != '_' && count == 1 {
				all = append(all, api.Finding{Kind: api.FSingle, Clause: i, Other: -1, Off: t.Off, Name: t.Text})
			}
		})
		for _, l := range c.Body {
			if truth(l) > 0 {
				all = append(all, api.Finding{Kind: api.FIdle, Clause: i, Other: -1, Off: l.Off})
			}
		}
		early := slices.ContainsFunc(p.Clauses[:i], func(other api.Clause) bool { return other.Head.Pred == c.Head.Pred && len(other.Body) > 0 })
		if len(c.Body) > 0 && !early && !slices.Contains(bodies(p), c.Head.Pred) {
			all = append(all, api.Finding{Kind: api.FUnused, Clause: i, Other: -1, Off: c.Head.Off, Name: c.Head.Pred})
		}
	}
	return all
}

func plainTrim(p api.Program) api.Program {
	var some, all api.Program
	for _, c := range p.Clauses {
		var body []api.Literal
		for _, l := range c.Body {
			if truth(l) <= 0 {
				body = append(body, l)
			}
		}
		c.Body = body
		if atFault(c) < 0 {
			some.Clauses = append(some.Clauses, c)
		}
	}
	for i, c := range some.Clauses {
		if plainTwice(some, i) < 0 && plainCovered(some, i) < 0 {
			all.Clauses = append(all.Clauses, c)
		}
	}
	return all
}

// plainHang goes through all clauses till no predicate comes any more.
func plainHang(p api.Program, goals []string) map[string]bool {
	hang := map[string]bool{}
	for _, goal := range goals {
		hang[goal] = true
	}
	for before := -1; before < len(hang); {
		before = len(hang)
		for _, c := range p.Clauses {
			if hang[c.Head.Pred] {
				for _, pred := range bodies(api.Program{Clauses: []api.Clause{c}}) {
					hang[pred] = true
				}
			}
		}
	}
	return hang
}

func plainSlice(p api.Program, goals []string) (part api.Program) {
	hang := plainHang(p, goals)
	for _, c := range p.Clauses {
		if hang[c.Head.Pred] {
			part.Clauses = append(part.Clauses, c)
		}
	}
	return part
}
