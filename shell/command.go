package shell

// command is a word and what goes with it: how the rest of its line is read, whether it needs an engine, what it does.
type command struct {
	word        string
	read        func(rest string, more bool) (request, bool)
	needsEngine bool
	do          func(*Shell, request) []string
}

func commands() []command {
	return []command{
		{"rule", anything, false, (*Shell).rule},
		{"fact", anything, false, (*Shell).fact},
		{"new", nothing, false, (*Shell).begin},
		{"load", nothing, false, (*Shell).load},
		{"text", nothing, false, (*Shell).text},
		{"run", budgetsAndPicks, true, (*Shell).run},
		{"show", nothing, true, (*Shell).show},
		{"conflict", nothing, true, (*Shell).conflict},
		{"eligible", nothing, true, (*Shell).eligible},
		{"log", nothing, true, (*Shell).log},
		{"plan", nothing, true, (*Shell).plan},
		{"ask", limitAndQuery, true, (*Shell).ask},
		{"why", anything, true, (*Shell).why},
		{"whynot", ruleAndConstants, true, (*Shell).whyNot},
		{"save", nothing, true, (*Shell).save},
		{"back", nothing, false, (*Shell).back},
		{"reset", nothing, true, (*Shell).reset},
	}
}
