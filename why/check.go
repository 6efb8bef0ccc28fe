package why

import (
	"slices"
	"strconv"
	"strings"

	"edict/api"
	"edict/core"
)

// checker is what lines are held against. The core, the memory and the lines may be of any form.
type checker struct {
	core   api.Core
	consts map[api.Const]struct{}
	given  facts
	memory facts
}

func newChecker(c api.Core, memory []api.Fact) checker {
	k := checker{core: c, consts: map[api.Const]struct{}{}, given: facts{}, memory: facts{}}
	for _, x := range c.Consts {
		k.consts[x] = struct{}{}
	}
	for _, r := range c.Facts {
		if f, e := core.Fact(c, r); e == api.OK {
			k.given.put(f)
		}
	}
	for _, f := range memory {
		k.memory.put(f)
	}
	return k
}

// right tells whether a line is right behind those ahead of it.
func (k checker) right(l api.Line, ahead []api.Line) bool {
	if l.Rule == given {
		return len(l.Subst) == 0 && len(l.From) == 0 && k.given.has(l.Fact)
	}
	if !within(l.Rule, k.core.Rules) {
		return false
	}
	r := k.core.Rules[l.Rule]
	if len(l.Subst) != len(r.Vars) || slices.ContainsFunc(l.Subst, k.unknown) {
		return false
	}
	u := under{core: k.core, subst: l.Subst}
	return u.is(r.Head, l.Fact) && u.are(r.Pos, l.From, ahead) && !slices.ContainsFunc(r.Tests, u.fails) && k.free(u, r.Neg)
}

func (k checker) unknown(c api.Const) bool {
	_, is := k.consts[c]
	return !is
}

// is tells whether a pattern comes to a fact.
func (u under) is(p api.Pattern, f api.Fact) bool {
	own, whole := u.fact(p)
	return whole && own.Pred == f.Pred && slices.Equal(own.Args, f.Args)
}

// are tells whether patterns come to the facts of the lines with these numbers, one for each.
func (u under) are(ps []api.Pattern, nums []int, ahead []api.Line) bool {
	if len(nums) != len(ps) {
		return false
	}
	for place, num := range nums {
		if !within(num, ahead) || !u.is(ps[place], ahead[num].Fact) {
			return false
		}
	}
	return true
}

func (u under) fails(t api.Test) bool { return !u.holds(t) }

// free tells whether each of these patterns comes to a fact, and none of these is in memory.
func (k checker) free(u under, ps []api.Pattern) bool {
	for _, p := range ps {
		if f, whole := u.fact(p); !whole || k.memory.has(f) {
			return false
		}
	}
	return true
}

// facts is a set of facts of any form, by their keys.
type facts map[string]struct{}

func (s facts) put(f api.Fact) { s[key(f)] = struct{}{} }

func (s facts) has(f api.Fact) bool {
	_, is := s[key(f)]
	return is
}

// key is the same string for facts that are the same, and for no others. (Their texts would not do: all facts that are not well formed have one text.)
func key(f api.Fact) string {
	parts := []string{measured(f.Pred)}
	for _, c := range f.Args {
		parts = append(parts, strconv.Itoa(c.Kind), strconv.FormatInt(c.Int, 10), measured(c.Text))
	}
	return strings.Join(parts, " ")
}

// measured is a text with its length ahead, so that its end can be told whatever stands in it.
func measured(text string) string { return strconv.Itoa(len(text)) + ":" + text }
