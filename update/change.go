package update

import (
	"maps"

	"edict/api"
)

// behind is the given facts as they are behind a change, or the first reason that speaks against it before the rules are asked.
func (k *Keeper) behind(drop []api.Fact, add []api.Fact) (set, api.Errno) {
	goes, fine := setOf(drop)
	comes, too := setOf(add)
	if !fine || !too {
		return nil, api.ErrArg
	}
	given := maps.Clone(k.given)
	for text := range goes {
		if !given.has(text) {
			return nil, api.ErrNone
		}
		delete(given, text)
	}
	for text, f := range comes {
		if given.has(text) {
			return nil, api.ErrTwice
		}
		given[text] = f
	}
	return given, api.OK
}

// turn makes the model another one: what came into it and what went out of it, sorted.
func (k *Keeper) turn(model set) (came []api.Fact, went []api.Fact) {
	for text, f := range k.model {
		if !model.has(text) {
			delete(k.model, text)
			went = append(went, f)
		}
	}
	for text, f := range model {
		if !k.model.has(text) {
			k.model[text] = f
			came = append(came, f)
		}
	}
	sortFacts(came)
	sortFacts(went)
	return came, went
}
