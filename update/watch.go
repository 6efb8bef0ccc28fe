package update

import "edict/api"

// watcher is a function and the predicate whose facts it is called for.
type watcher struct {
	pred string
	call func(came bool, fact api.Fact)
}

// tell calls the function for the facts of its predicate. A panic of its ends the one call alone: the change is done, and others are to be told of it.
func (w watcher) tell(came bool, facts []api.Fact) {
	for _, f := range facts {
		if f.Pred != w.pred {
			continue
		}
		func() {
			defer func() { _ = recover() }()
			w.call(came, copyOf(f))
		}()
	}
}
