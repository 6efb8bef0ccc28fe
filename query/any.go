package query

import (
	"sync"

	"edict/api"
	"edict/engine"
)

// race is several questions that are asked at once.
type race struct {
	done []chan struct{} // of each text; those behind the least are closed

	mutex sync.Mutex
	least int // the least number of a text that has an answer; as many as there are texts, as long as none has
}

// askAll asks all texts over the present memory, each in a goroutine of its own: the least number of one that has an answer, or how many there are, and the fault of each.
func askAll(e *engine.Engine, texts []string) (int, []api.Fault) {
	c := e.Core()
	rows := inOrder(c, e.Rows())
	faults := make([]api.Fault, len(texts))
	r := newRace(len(texts))
	var askers sync.WaitGroup
	for num, text := range texts {
		askers.Add(1)
		go func() {
			defer askers.Done()
			q, fault := read(c, text)
			faults[num] = fault // told whether it is wanted any more or not
			if fault.Code != api.OK {
				return
			}
			q.rows = rows
			q.search(r.done[num], func([]int) bool {
				r.answered(num)
				return false
			})
		}()
	}
	askers.Wait()
	return r.least, faults
}

func newRace(texts int) *race {
	r := &race{least: texts}
	for range texts {
		r.done = append(r.done, make(chan struct{}))
	}
	return r
}

// answered cancels the texts behind one that has an answer. None ahead of it is: so the least one that has an answer finds it, whichever is quicker.
func (r *race) answered(num int) {
	r.mutex.Lock()
	defer r.mutex.Unlock()
	for behind := num + 1; behind < len(r.done) && behind <= r.least; behind++ {
		close(r.done[behind])
	}
	r.least = min(r.least, num)
}
