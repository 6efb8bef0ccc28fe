package agenda

import (
	"slices"

	"edict/api"
)

// set is acts, by their keys.
type set map[key]struct{}

func (s set) has(k key) bool {
	_, is := s[k]
	return is
}

func always(key) bool { return true }

// told is the acts of a set that are wanted, sorted.
func (a *Agenda) told(from set, wanted func(k key) bool) []api.Act {
	var keys []key
	for k := range from {
		if wanted(k) {
			keys = append(keys, k)
		}
	}
	slices.Sort(keys)
	acts := make([]api.Act, 0, len(keys))
	for _, k := range keys {
		acts = append(acts, a.order.actOf(k))
	}
	return acts
}

// keyOf is the key of an act; false where it is none of the agenda's.
func (a *Agenda) keyOf(act api.Act) (key, bool) {
	if act.Rule < 0 || act.Rule >= len(a.levels) {
		return "", false
	}
	return a.order.keyOf(act)
}

func (a *Agenda) level(k key) int { return a.levels[k.rule()] }

// bring makes one change.
func (a *Agenda) bring(change api.Change) api.Errno {
	k, is := a.keyOf(change.Act)
	switch {
	case !is:
		return api.ErrArg
	case change.Came && a.conflict.has(k):
		return api.ErrTwice
	case !change.Came && !a.conflict.has(k):
		return api.ErrNone
	case change.Came:
		a.conflict[k] = struct{}{}
	default:
		delete(a.conflict, k)
	}
	switch {
	case a.fired.has(k):
	case change.Came:
		a.wait(k)
	default:
		a.leave(k)
	}
	return api.OK
}

// wait puts an act among those of its stratum that may fire.
func (a *Agenda) wait(k key) {
	level := a.level(k)
	if a.waiting[level] == nil {
		a.waiting[level] = &line{}
	}
	a.waiting[level].put(k)
}

// leave takes out an act that waits.
func (a *Agenda) leave(k key) {
	level := a.level(k)
	a.waiting[level].drop(k)
	if a.waiting[level].count == 0 {
		delete(a.waiting, level)
	}
}
