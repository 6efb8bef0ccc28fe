package engine

import (
	"math"

	"edict/agenda"
	"edict/api"
	"edict/rete"
)

// network is what knows the conflict set of a memory, and what of it has fired.
type network struct {
	net    *rete.Net
	agenda *agenda.Agenda
}

// newNetwork is the network of the present memory; nil where there would be more than limit live tokens.
func (e *Engine) newNetwork(limit uint64) *network {
	l := e.loaded
	net, _ := rete.New(l.core.Consts, l.plan)
	if _, code := net.Assert(limit, e.Rows()...); code != api.OK {
		return nil
	}
	n := &network{net: net, agenda: agenda.New(l.strata, l.core.Consts)}
	n.agenda.Apply(net.Changes()...)
	// The agenda takes each of these: an act fires when all that it negates is complete, so it is in the conflict set still, and the strata of the log rise.
	for _, s := range e.log {
		n.agenda.Fire(s.act)
	}
	return n
}

// asked is the network for a question. One that is made for it is not kept: asking changes nothing.
func (e *Engine) asked() *network {
	if e.network == nil {
		return e.newNetwork(math.MaxUint64)
	}
	return e.network
}

// fits tells whether the memory has at most limit live tokens. If so, the network is there; it is made only up to the limit, so that a small one is a small amount of work.
func (e *Engine) fits(limit uint64) bool {
	if e.network == nil {
		e.network = e.newNetwork(limit)
	}
	return e.network != nil && e.network.net.Live() <= limit
}

// live is the number of live tokens behind a run, told no higher than most. Where the run could not make the network, there are that many.
func (e *Engine) live(most uint64) uint64 {
	if e.network == nil {
		return most
	}
	return min(e.network.net.Live(), most)
}

func (n *network) atRest() bool { return n.agenda.Stratum() < 0 }

// take has an eligible act fire and its head come in, unless there would be more than limit live tokens then.
func (n *network) take(act api.Act, head api.Row, limit uint64) bool {
	if _, code := n.net.Assert(limit, head); code != api.OK {
		return false
	}
	n.agenda.Fire(act)
	n.agenda.Apply(n.net.Changes()...)
	return true
}
