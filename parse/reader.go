package parse

import (
	"slices"

	"edict/api"
)

// reader goes through a text's tokens from the left. It gives up at the first that can't be taken, by a panic with the fault.
type reader struct {
	tokens []api.Token
	behind api.Fault // why no token follows these
	at     int
}

// look is the next token, which stays the next one. That there is none is a fault only now:
// one of the grammar further to the left comes ahead of it.
func (r *reader) look() api.Token {
	if r.at == len(r.tokens) {
		panic(r.behind)
	}
	return r.tokens[r.at]
}

// take goes over the next token, if it is of one of these kinds.
func (r *reader) take(kinds ...int) api.Token {
	t := r.look()
	if !slices.Contains(kinds, t.Kind) {
		giveUp(misplaced(t.Kind), t.Off)
	}
	r.at++
	return t
}

func misplaced(kind int) api.Errno {
	if kind == api.TEnd {
		return api.ErrEnd
	}
	return api.ErrSyntax
}

// limit gives up at an offset where as many things stand ahead of it as there may be.
func limit(have int, most int, code api.Errno, off int) {
	if have == most {
		giveUp(code, off)
	}
}

func giveUp(code api.Errno, off int) {
	panic(api.Fault{Code: code, Off: off})
}
