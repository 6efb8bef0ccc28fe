package engine

import (
	"edict/api"
	"edict/match"
)

// step is an act that has fired, and whether it brought its head in.
type step struct {
	act   api.Act
	fresh bool
}

// fire takes a step with an eligible act; false where there is no room for its head: then it has not fired, and the memory is as it was.
func (e *Engine) fire(act api.Act, mem uint64) (stands bool) {
	mark := e.memory.Len()
	defer func() {
		if !stands {
			e.memory.Undo(mark)
		}
	}()
	head := e.loaded.head(act)
	came, _ := e.memory.Add(head)
	if !e.network.take(act, head, mem) {
		return false
	}
	e.log = append(e.log, step{act: act, fresh: came > 0})
	return true
}

// head is the head of a rule under an act's substitution.
func (l *loaded) head(act api.Act) api.Row {
	form := l.core.Rules[act.Rule].Head
	ids, _ := match.Ground(form, act.Subst)
	return api.Row{Pred: form.Pred, Args: ids}
}
