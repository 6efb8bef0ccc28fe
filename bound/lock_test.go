package bound

import (
	"testing"
	"time"
)

// Each call waits for the meter's mutex, and lets go of it: so it is one act, also where no test happens to see it torn.
func TestEachCallIsOneAct(t *testing.T) {
	m := NewMeter(5)
	for name, call := range map[string]func(){
		"Spend":  func() { m.Spend(1) },
		"Spend0": func() { m.Spend(0) },
		"Spend9": func() { m.Spend(9) },
		"Refund": func() { m.Refund(1) },
		"Used":   func() { m.Used() },
		"Left":   func() { m.Left() },
	} {
		done := make(chan bool)
		m.lock.Lock()
		go func() {
			defer close(done)
			call()
		}()
		select {
		case <-done:
			t.Errorf("%s did not wait", name)
		case <-time.After(20 * time.Millisecond):
		}
		m.lock.Unlock()
		select {
		case <-done:
		case <-time.After(time.Minute):
			t.Fatalf("%s waits on", name)
		}
		if !m.lock.TryLock() {
			t.Fatalf("%s holds on to the mutex", name)
		}
		m.lock.Unlock()
	}
}
