package core

import "edict/api"

// blank is the variable's name that stands for a new variable each time.
const blank = "_"

// roll is things by their numbers; a thing's number is found by its key.
type roll[K comparable, T any] struct {
	list []T
	nums map[K]int
}

func newRoll[K comparable, T any]() *roll[K, T] {
	return &roll[K, T]{nums: map[K]int{}}
}

// number is the number that a thing got when it first came, and whether that is now: then it is put behind all others.
func number[K comparable, T any](r *roll[K, T], key K, thing T) (int, bool) {
	if num, came := r.nums[key]; came {
		return num, false
	}
	num := len(r.list)
	r.list = append(r.list, thing)
	r.nums[key] = num
	return num, true
}

// vars is the variables of a clause or a query. A blank is in the list, but has no key: nothing ever finds it again.
type vars struct {
	roll[string, string]
}

func newVars() *vars { return &vars{roll: *newRoll[string, string]()} }

// bodyVars is the variables of the positive atoms of a body.
func bodyVars(ls []api.Literal) *vars {
	v := newVars()
	for _, l := range ls {
		if l.Kind != api.LPos {
			continue
		}
		for _, t := range l.Atom.Args {
			v.meet(t)
		}
	}
	return v
}

// take is the number of a variable where it stands.
func (v *vars) take(name string) int {
	if name == blank {
		v.list = append(v.list, name)
		return len(v.list) - 1
	}
	num, _ := number(&v.roll, name, name)
	return num
}

// meet takes a term in where it is a variable.
func (v *vars) meet(t api.Term) {
	if t.Kind == api.KVar {
		v.take(t.Text)
	}
}

// lacks tells whether a term is a variable that is none of these.
func (v *vars) lacks(t api.Term) bool {
	_, there := v.nums[t.Text]
	return t.Kind == api.KVar && !there
}
