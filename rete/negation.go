package rete

// negation is a node that lets tokens through as long as there is no row that blocks them. All nodes below it are negations too.
type negation struct {
	net     *Net
	num     int
	base    *stock    // of the next node above that is no negation: its tokens are all that can come here
	above   *negation // where the node above is one; else nil
	left    *index    // the tokens of base, by the links' variables
	right   *index    // the rows of the shape, by the links' places
	blocked map[token]struct{}
	kids    []*negation
}

func (g *negation) take(t token) bool {
	if _, is := g.right.found[g.left.key(t[:])]; is {
		g.block(t)
		return true
	}
	g.let(t)
	for _, kid := range g.kids {
		kid.take(t)
	}
	return true
}

// meet blocks what has come here and holds what the row holds. The links fix the row, so nothing of it is blocked yet.
func (g *negation) meet(r row) bool {
	for _, num := range g.left.found[g.right.key(r.ids[:])] {
		if t := g.base.list[num]; g.above.lets(t) {
			g.block(t)
			g.stop(t)
		}
	}
	return true
}

// lose takes away a token that the negation above has stopped.
func (g *negation) lose(t token) {
	if _, is := g.blocked[t]; is {
		g.unblock(t)
		return
	}
	g.stop(t)
}

// stop lets a token through no longer, and the kids lose it.
func (g *negation) stop(t token) {
	g.gone(t)
	g.net.note(func() { g.come(t) })
	for _, kid := range g.kids {
		kid.lose(t)
	}
}

func (g *negation) let(t token) {
	g.come(t)
	g.net.note(func() { g.gone(t) })
}

func (g *negation) come(t token) {
	g.net.passed++
	g.net.turn(g.num, t, came)
}

func (g *negation) gone(t token) {
	g.net.passed--
	g.net.turn(g.num, t, went)
}

func (g *negation) block(t token) {
	g.blocked[t] = struct{}{}
	g.net.note(func() { delete(g.blocked, t) })
}

func (g *negation) unblock(t token) {
	delete(g.blocked, t)
	g.net.note(func() { g.blocked[t] = struct{}{} })
}

// lets tells whether a token of base comes through this negation and those above it. Where there is none, it does.
func (g *negation) lets(t token) bool {
	for ; g != nil; g = g.above {
		if _, is := g.blocked[t]; is {
			return false
		}
	}
	return true
}

func (g *negation) tokens() []token {
	var through []token
	for _, t := range g.base.list {
		if g.lets(t) {
			through = append(through, t)
		}
	}
	return through
}
