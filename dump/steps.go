package dump

import (
	"edict/api"
	"edict/engine"
	"edict/sym"
)

// A byte of a short number holds 7 bits; more says that another byte is behind it.
const (
	shortSize = 3
	more      = 128
)

// actsOf is an engine's log in ids.
func actsOf(e *engine.Engine) []api.Act {
	log := e.Log()
	ids := sym.NewIds(e.Core().Consts...)
	acts := make([]api.Act, 0, len(log))
	for _, step := range log {
		act := api.Act{Rule: step.Rule}
		for _, c := range step.Subst {
			act.Subst = append(act.Subst, ids.Find(c))
		}
		acts = append(acts, act)
	}
	return acts
}

// appendSteps is what is written so far, and acts as steps behind it.
func appendSteps(written []byte, acts []api.Act) []byte {
	for _, act := range acts {
		written = appendShort(written, act.Rule)
		for _, id := range act.Subst {
			written = appendShort(written, id)
		}
	}
	return written
}

func appendShort(written []byte, n int) []byte {
	for n >= more {
		written = append(written, byte(n%more+more))
		n /= more
	}
	return append(written, byte(n))
}

// acts is the steps, if the bytes are just so many of acts of these rules and constants.
func (s saved) acts(c api.Core) []api.Act {
	rest := unread(s.steps)
	var acts []api.Act
	for range s.count {
		act := api.Act{Rule: rest.below(len(c.Rules))}
		for range c.Rules[act.Rule].Vars {
			act.Subst = append(act.Subst, rest.below(len(c.Consts)))
		}
		acts = append(acts, act)
	}
	if rest != "" {
		panic(api.ErrForm)
	}
	return acts
}

// unread is the bytes of steps that are not read yet.
type unread string

// below is the next short number, which is less than a limit.
func (u *unread) below(limit int) int {
	n := u.short()
	if n >= limit {
		panic(api.ErrForm)
	}
	return n
}

// short is the next short number.
func (u *unread) short() int {
	n := 0
	for place := range shortSize {
		b := u.next()
		n |= int(b%more) << (7 * place)
		if b < more {
			if b == 0 && place > 0 {
				panic(api.ErrForm)
			}
			return n
		}
	}
	panic(api.ErrForm)
}

func (u *unread) next() byte {
	if *u == "" {
		panic(api.ErrForm)
	}
	b := (*u)[0]
	*u = (*u)[1:]
	return b
}
