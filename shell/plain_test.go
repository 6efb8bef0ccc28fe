package shell_test

import (
	"fmt"
	"math/big"
	"regexp"
	"strconv"
	"strings"

	"edict/api"
	"edict/engine"
	"edict/lex"
	"edict/parse"
	"edict/plan"
	"edict/print"
	"edict/query"
	"edict/sym"
	"edict/why"
)

// plain is a shell by the chapter's words: each form of a line is a pattern of its own.
type plain struct {
	program, facts string
	e              *engine.Engine
	pile           []*engine.Engine
}

const number = `[0-9]{1,20}|max`

var forms = []struct {
	form   *regexp.Regexp
	wrong  string // of a line with this command word that has another form
	engine bool
	do     func(p *plain, parts []string) string
}{
	{regexp.MustCompile(`^(?s:rule(?: (.*))?)$`), "", false, func(p *plain, parts []string) string { p.program += parts[1] + "\n"; return "" }},
	{regexp.MustCompile(`^(?s:fact(?: (.*))?)$`), "", false, func(p *plain, parts []string) string { p.facts += parts[1] + "\n"; return "" }},
	{regexp.MustCompile(`^new$`), "new", false, func(p *plain, _ []string) string { *p = plain{}; return "" }},
	{regexp.MustCompile(`^load$`), "load", false, func(p *plain, _ []string) string { return p.load() }},
	{regexp.MustCompile(`^text$`), "text", false, func(p *plain, _ []string) string {
		program, fault := parse.Program(p.program)
		if fault.Code != 0 {
			return plainFault(fault, p.program)
		}
		return print.Program(program)
	}},
	{regexp.MustCompile(`^run (` + number + `) (` + number + `)((?: -?[0-9]{1,19})*)$`), "run", true, func(p *plain, parts []string) string { return p.run(parts) }},
	{regexp.MustCompile(`^show$`), "show", true, func(p *plain, _ []string) string { return p.e.Model() }},
	{regexp.MustCompile(`^conflict$`), "conflict", true, func(p *plain, _ []string) string { return p.acts(p.e.Conflict()) }},
	{regexp.MustCompile(`^eligible$`), "eligible", true, func(p *plain, _ []string) string { return p.acts(p.e.Eligible()) }},
	{regexp.MustCompile(`^log$`), "log", true, func(p *plain, _ []string) string {
		text := ""
		for _, f := range p.e.Log() {
			text += fmt.Sprintf("%s %d %s.\n", map[bool]string{true: "new", false: "old"}[f.Fresh], f.Rule, print.Fact(f.Head))
		}
		return text
	}},
	{regexp.MustCompile(`^plan$`), "plan", true, func(p *plain, _ []string) string { return plan.Text(p.e.Plan()) }},
	{regexp.MustCompile(`^(?s:ask ([0-9]{1,9}) (.*))$`), "ask", true, func(p *plain, parts []string) string { return p.ask(parts[1], parts[2]) }},
	{regexp.MustCompile(`^(?s:why(?: (.*))?)$`), "", true, func(p *plain, parts []string) string { return p.why(parts[1]) }},
	{regexp.MustCompile(`^(?s:whynot ([0-9]{1,9})(?: (.*))?)$`), "whynot", true, func(p *plain, parts []string) string { return p.whyNot(parts[1], parts[2]) }},
	{regexp.MustCompile(`^save$`), "save", true, func(p *plain, _ []string) string { p.pile = append(p.pile, p.e.Fork()); return "" }},
	{regexp.MustCompile(`^back$`), "back", false, func(p *plain, _ []string) string {
		if len(p.pile) == 0 {
			return "error 50\n"
		}
		p.e, p.pile = p.pile[len(p.pile)-1], p.pile[:len(p.pile)-1]
		return ""
	}},
	{regexp.MustCompile(`^reset$`), "reset", true, func(p *plain, _ []string) string { p.e.Reset(); return "" }},
}

// latin is a text whose bytes are characters: so a pattern goes over them one by one.
func latin(line string) string {
	var runes []rune
	for _, b := range []byte(line) {
		runes = append(runes, rune(b))
	}
	return string(runes)
}

func unLatin(text string) string {
	var bytes []byte
	for _, r := range text {
		bytes = append(bytes, byte(r))
	}
	return string(bytes)
}

// line is a line's answer, each of its lines with a line end.
func (p *plain) line(line string) string {
	switch {
	case strings.ContainsRune(line, '\n'):
		return "error 2\n"
	case line == "" || line[0] == '#':
		return ""
	}
	for _, f := range forms {
		parts := f.form.FindStringSubmatch(latin(line))
		if parts == nil {
			continue
		}
		for num := range parts {
			parts[num] = unLatin(parts[num])
		}
		if strings.HasPrefix(line, "run ") && !inRange(parts) {
			continue
		}
		if f.engine && p.e == nil {
			return "error 53\n"
		}
		return f.do(p, parts)
	}
	for _, f := range forms {
		if f.wrong != "" && (line == f.wrong || strings.HasPrefix(line, f.wrong+" ")) {
			return "error 2\n"
		}
	}
	return "error 20\n"
}

func whole(word string) *big.Int {
	if word == "max" {
		return new(big.Int).SetUint64(most)
	}
	n, _ := new(big.Int).SetString(word, 10)
	return n
}

const most = 1<<64 - 1

func inRange(parts []string) bool {
	good := whole(parts[1]).IsUint64() && whole(parts[2]).IsUint64()
	for _, w := range strings.Fields(parts[3]) {
		good = good && whole(w).IsInt64()
	}
	return good
}

func plainFault(f api.Fault, text string) string {
	line, column := 0, 0
	if len(text) <= api.MaxSource {
		ahead := strings.Split(text[:f.Off], "\n")
		line, column = len(ahead), 1+len(ahead[len(ahead)-1])
	}
	return fmt.Sprintf("fault %d %d %d %d\n", f.Code, f.Text, line, column)
}

func (p *plain) load() string {
	e, i, fault := engine.Load(p.program, p.facts)
	if fault.Code != 0 {
		return plainFault(fault, []string{p.program, p.facts}[fault.Text])
	}
	p.e = e
	return fmt.Sprintf("loaded rules %d preds %d consts %d facts %d strata %d nodes %d bound %d tokens %d\n", i.Rules, i.Preds, i.Consts, i.Facts, i.Strata, i.Nodes, i.Bound, i.Tokens)
}

func (p *plain) run(parts []string) string {
	var picks []int
	for _, w := range strings.Fields(parts[3]) {
		picks = append(picks, int(whole(w).Int64()))
	}
	o := p.e.Run(picks, whole(parts[1]).Uint64(), whole(parts[2]).Uint64())
	return fmt.Sprintf("%s steps %d fresh %d live %d\n", []string{"", "done", "steps", "memory"}[o.Stop], o.Steps, o.Fresh, o.Live)
}

func (p *plain) acts(acts []api.Activation) string {
	text := ""
	for _, a := range acts {
		text += fmt.Sprintf("%d:", a.Rule)
		for num, v := range p.e.Core().Rules[a.Rule].Vars {
			text += " " + v + "=" + sym.Text(a.Subst[num])
		}
		text += "\n"
	}
	return text
}

func (p *plain) ask(limit, text string) string {
	n, _ := strconv.Atoi(limit)
	names, answers, more, fault := query.Ask(p.e, text, n)
	if fault.Code != 0 {
		return plainFault(fault, text)
	}
	out := fmt.Sprintf("answers %d", len(answers))
	if more {
		out += " and more"
	}
	for _, a := range answers {
		row := ""
		for num, v := range names {
			row += fmt.Sprintf(" %s=%s", v, sym.Text(a.Row[num]))
		}
		if len(names) == 0 {
			row = " yes"
		}
		out += "\n" + row[1:]
	}
	return out + "\n"
}

func (p *plain) why(text string) string {
	f, fault := parse.Fact(text)
	if fault.Code != 0 {
		return plainFault(fault, text)
	}
	lines, e := why.Prove(p.e, f)
	if e != 0 {
		return fmt.Sprintf("error %d\n", e)
	}
	return why.Text(lines)
}

func (p *plain) whyNot(rule, text string) string {
	tokens, fault := lex.Scan(text)
	if fault.Code != 0 {
		return plainFault(fault, text)
	}
	var subst []api.Const
	for _, x := range tokens {
		kinds := map[int]int{api.TName: api.KName, api.TInt: api.KInt, api.TText: api.KText}
		if kinds[x.Kind] == 0 && x.Kind != api.TEnd {
			return "error 2\n"
		}
		if x.Kind != api.TEnd {
			subst = append(subst, api.Const{Kind: kinds[x.Kind], Int: x.Int, Text: x.Text})
		}
	}
	n, _ := strconv.Atoi(rule)
	obstacles, e := why.Against(p.e, n, subst)
	if e != 0 {
		return fmt.Sprintf("error %d\n", e)
	}
	out := ""
	for _, o := range obstacles {
		out += map[int]string{api.OMissing: "missing ", api.OFails: "fails ", api.OBlocked: "blocked "}[o.Kind] + strings.TrimSpace(fmt.Sprint(o.Num, " ", print.Fact(o.Fact))) + "\n"
	}
	if out == "" {
		return "nothing\n"
	}
	return out
}
