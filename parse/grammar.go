package parse

import "edict/api"

// The grammar of chapter 3. What may stand too often is counted behind the taking of its first token and ahead of any look
// further on: so a token that can't stand there is told as such, one that can as one too many, and neither what follows.

func (r *reader) program() api.Program {
	var p api.Program
	for {
		first := r.take(api.TName, api.TEnd)
		if first.Kind == api.TEnd {
			return p
		}
		limit(len(p.Clauses), api.MaxClauses, api.ErrClauses, first.Off)
		p.Clauses = append(p.Clauses, r.clause(first))
	}
}

func (r *reader) clause(name api.Token) api.Clause {
	c := api.Clause{Head: r.atom(name)}
	if r.take(api.TDot, api.TArrow).Kind == api.TArrow {
		c.Body = r.body()
	}
	return c
}

func (r *reader) facts() []api.Atom {
	var facts []api.Atom
	for {
		first := r.take(api.TName, api.TEnd)
		if first.Kind == api.TEnd {
			return facts
		}
		limit(len(facts), api.MaxFacts, api.ErrClauses, first.Off)
		facts = append(facts, r.ground(first))
		r.take(api.TDot)
	}
}

func (r *reader) query() []api.Literal {
	body := r.body()
	r.take(api.TEnd)
	return body
}

func (r *reader) fact() api.Fact {
	a := r.ground(r.take(api.TName))
	r.take(api.TEnd)
	f := api.Fact{Pred: a.Pred}
	for _, t := range a.Args {
		f.Args = append(f.Args, api.Const{Kind: t.Kind, Int: t.Int, Text: t.Text})
	}
	return f
}

// body takes the dot behind its last literal too: wherever the grammar has a body, one follows.
func (r *reader) body() []api.Literal {
	var body []api.Literal
	for {
		first := r.take(api.TName, api.TNot, api.TVar, api.TInt, api.TText)
		limit(len(body), api.MaxBody, api.ErrBody, first.Off)
		body = append(body, r.literal(first))
		if r.take(api.TComma, api.TDot).Kind == api.TDot {
			return body
		}
	}
}

func (r *reader) literal(first api.Token) api.Literal {
	switch {
	case first.Kind == api.TNot:
		return api.Literal{Kind: api.LNeg, Atom: r.atom(r.take(api.TName)), Off: first.Off}
	case first.Kind == api.TName && r.look().Kind != api.TOp:
		return api.Literal{Kind: api.LPos, Atom: r.atom(first), Off: first.Off}
	}
	op := r.take(api.TOp).Op
	return api.Literal{Kind: api.LTest, Op: op, Left: termOf(first), Right: r.term(), Off: first.Off}
}

func (r *reader) atom(name api.Token) api.Atom {
	return r.atomOf(name, (*reader).term)
}

func (r *reader) ground(name api.Token) api.Atom {
	return r.atomOf(name, (*reader).value)
}

// atomOf is the atom that a name begins; each of its terms is taken by part.
func (r *reader) atomOf(name api.Token, part func(*reader) api.Term) api.Atom {
	a := api.Atom{Pred: name.Text, Off: name.Off}
	if r.look().Kind != api.TLParen {
		return a
	}
	r.take(api.TLParen)
	for {
		t := part(r)
		limit(len(a.Args), api.MaxArity, api.ErrArity, t.Off)
		a.Args = append(a.Args, t)
		if r.take(api.TComma, api.TRParen).Kind == api.TRParen {
			return a
		}
	}
}

func (r *reader) term() api.Term {
	return termOf(r.take(api.TVar, api.TInt, api.TName, api.TText))
}

func (r *reader) value() api.Term {
	return termOf(r.take(api.TInt, api.TName, api.TText))
}

func termOf(t api.Token) api.Term {
	return api.Term{Kind: termKind(t.Kind), Int: t.Int, Text: t.Text, Off: t.Off}
}

func termKind(token int) int {
	switch token {
	case api.TInt:
		return api.KInt
	case api.TName:
		return api.KName
	case api.TText:
		return api.KText
	}
	return api.KVar
}
