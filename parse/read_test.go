package parse

import (
	"testing"

	"edict/api"
)

// A panic that is no fault is not the face's to catch; one that is a fault is its answer, and the only one.

func readAs(rule func(*reader) int) (answer int, fault api.Fault, through any) {
	defer func() { through = recover() }()
	answer, fault = read("p", rule)
	return answer, fault, nil
}

func TestReadCatchesFaultsAlone(t *testing.T) {
	if a, f, through := readAs(func(*reader) int { return 7 }); a != 7 || f != (api.Fault{}) || through != nil {
		t.Errorf("a rule that answers: %d, %v, %v", a, f, through)
	}
	fault := api.Fault{Code: api.ErrBody, Off: 3}
	if a, f, through := readAs(func(*reader) int { panic(fault) }); a != 0 || f != fault || through != nil {
		t.Errorf("a rule that gives up: %d, %v, %v", a, f, through)
	}
	for _, other := range []any{"other", 20, &fault, api.ErrSyntax} {
		if a, f, through := readAs(func(*reader) int { panic(other) }); a != 0 || f != (api.Fault{}) || through != other {
			t.Errorf("a panic with %v: %d, %v, %v", other, a, f, through)
		}
	}
}
