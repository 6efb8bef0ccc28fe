package shell

import (
	"edict/api"
	"edict/engine"
	"edict/parse"
	"edict/print"
)

// What grows, loads and puts by: the commands that change which texts and engines there are.

func (s *Shell) rule(r request) []string {
	s.program.WriteString(r.text + "\n")
	return nil
}

func (s *Shell) fact(r request) []string {
	s.facts.WriteString(r.text + "\n")
	return nil
}

func (s *Shell) begin(request) []string {
	*s = Shell{}
	return nil
}

func (s *Shell) load(request) []string {
	program, facts := s.program.String(), s.facts.String()
	e, info, fault := engine.Load(program, facts)
	if fault.Code != api.OK {
		return faultLine(fault, program, facts)
	}
	s.engine = e
	return infoLine(info)
}

func (s *Shell) text(request) []string {
	src := s.program.String()
	p, fault := parse.Program(src)
	if fault.Code != api.OK {
		return faultLine(fault, src)
	}
	return linesOf(print.Program(p))
}

func (s *Shell) save(request) []string {
	s.pile = append(s.pile, s.engine.Fork())
	return nil
}

func (s *Shell) back(request) []string {
	if len(s.pile) == 0 {
		return refusal(api.ErrNone)
	}
	top := len(s.pile) - 1
	s.engine, s.pile[top] = s.pile[top], nil
	s.pile = s.pile[:top]
	return nil
}

func (s *Shell) reset(request) []string {
	s.engine.Reset()
	return nil
}
