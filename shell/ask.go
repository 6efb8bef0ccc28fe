package shell

import (
	"strconv"

	"edict/api"
	"edict/lex"
	"edict/parse"
	"edict/plan"
	"edict/query"
	"edict/why"
)

// What runs the engine and asks it.

func (s *Shell) run(r request) []string {
	return outcomeLine(s.engine.Run(r.picks, r.steps, r.mem))
}

func (s *Shell) show(request) []string {
	return linesOf(s.engine.Model())
}

func (s *Shell) conflict(request) []string {
	return s.actLines(s.engine.Conflict())
}

func (s *Shell) eligible(request) []string {
	return s.actLines(s.engine.Eligible())
}

func (s *Shell) actLines(acts []api.Activation) []string {
	rules := s.engine.Core().Rules
	return each(acts, func(a api.Activation) string {
		return actLine(a, rules[a.Rule].Vars)
	})
}

func (s *Shell) log(request) []string {
	return each(s.engine.Log(), firingLine)
}

func (s *Shell) plan(request) []string {
	return linesOf(plan.Text(s.engine.Plan()))
}

func (s *Shell) ask(r request) []string {
	names, answers, more, fault := query.Ask(s.engine, r.text, r.num)
	if fault.Code != api.OK {
		return faultLine(fault, r.text)
	}
	first := "answers " + strconv.Itoa(len(answers))
	if more {
		first += " and more"
	}
	return append([]string{first}, each(answers, func(a api.Answer) string {
		return bindingLine(names, a.Row)
	})...)
}

func (s *Shell) why(r request) []string {
	f, fault := parse.Fact(r.text)
	if fault.Code != api.OK {
		return faultLine(fault, r.text)
	}
	lines, e := why.Prove(s.engine, f)
	if e != api.OK {
		return refusal(e)
	}
	return linesOf(why.Text(lines))
}

func (s *Shell) whyNot(r request) []string {
	tokens, fault := lex.Scan(r.text)
	if fault.Code != api.OK {
		return faultLine(fault, r.text)
	}
	subst, ok := constants(tokens)
	if !ok {
		return refusal(api.ErrArg)
	}
	obstacles, e := why.Against(s.engine, r.num, subst)
	switch {
	case e != api.OK:
		return refusal(e)
	case len(obstacles) == 0:
		return []string{"nothing"}
	}
	return each(obstacles, obstacleLine)
}

// constants is what tokens stand for, if each of them, but the end, is a constant by itself.
func constants(tokens []api.Token) ([]api.Const, bool) {
	var all []api.Const
	for _, t := range tokens {
		switch t.Kind {
		case api.TEnd:
		case api.TInt:
			all = append(all, api.Const{Kind: api.KInt, Int: t.Int})
		case api.TName:
			all = append(all, api.Const{Kind: api.KName, Text: t.Text})
		case api.TText:
			all = append(all, api.Const{Kind: api.KText, Text: t.Text})
		default:
			return nil, false
		}
	}
	return all, true
}
