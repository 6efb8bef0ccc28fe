package shell

import (
	"strconv"
	"strings"

	"edict/api"
	"edict/lex"
	"edict/print"
	"edict/sym"
)

// refusal is an error line.
func refusal(e api.Errno) []string {
	return []string{"error " + strconv.Itoa(int(e))}
}

// faultLine tells a fault in one of the texts by the place in that text.
func faultLine(f api.Fault, texts ...string) []string {
	line, column := lex.Place(texts[f.Text], f.Off)
	words := []string{"fault"}
	for _, n := range []int{int(f.Code), f.Text, line, column} {
		words = append(words, strconv.Itoa(n))
	}
	return []string{strings.Join(words, " ")}
}

func infoLine(i api.Info) []string {
	line := "loaded" +
		count("rules", uint64(i.Rules)) + count("preds", uint64(i.Preds)) +
		count("consts", uint64(i.Consts)) + count("facts", uint64(i.Facts)) +
		count("strata", uint64(i.Strata)) + count("nodes", uint64(i.Nodes)) +
		count("bound", i.Bound) + count("tokens", i.Tokens)
	return []string{line}
}

func outcomeLine(o api.Outcome) []string {
	stop := "done"
	switch o.Stop {
	case api.StepBudget:
		stop = "steps"
	case api.MemBudget:
		stop = "memory"
	}
	return []string{stop + count("steps", o.Steps) + count("fresh", o.Fresh) + count("live", o.Live)}
}

// count is a number with its word, to be put behind others.
func count(word string, n uint64) string {
	return " " + word + " " + strconv.FormatUint(n, 10)
}

func actLine(a api.Activation, names []string) string {
	return strings.Join(append([]string{strconv.Itoa(a.Rule) + ":"}, bindings(names, a.Subst)...), " ")
}

func bindingLine(names []string, row []api.Const) string {
	if len(names) == 0 {
		return "yes"
	}
	return strings.Join(bindings(names, row), " ")
}

func bindings(names []string, consts []api.Const) []string {
	var all []string
	for num, name := range names {
		all = append(all, name+"="+sym.Text(consts[num]))
	}
	return all
}

func firingLine(f api.Firing) string {
	age := "old "
	if f.Fresh {
		age = "new "
	}
	return age + strconv.Itoa(f.Rule) + " " + print.Fact(f.Head) + "."
}

func obstacleLine(o api.Obstacle) string {
	num := strconv.Itoa(o.Num)
	switch o.Kind {
	case api.OMissing:
		return "missing " + num + " " + print.Fact(o.Fact)
	case api.OBlocked:
		return "blocked " + num + " " + print.Fact(o.Fact)
	}
	return "fails " + num
}

// linesOf cuts a text whose lines all have their ends.
func linesOf(text string) []string {
	var lines []string
	for line := range strings.Lines(text) {
		lines = append(lines, strings.TrimSuffix(line, "\n"))
	}
	return lines
}

// each is a line for each thing.
func each[T any](things []T, line func(T) string) []string {
	var lines []string
	for _, x := range things {
		lines = append(lines, line(x))
	}
	return lines
}
