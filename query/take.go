package query

import "sync"

// take hands the answers in their order to yield, till it answers false. They are found in a goroutine beside it, which has ended when take ends, by whichever way that is.
func (q question) take(yield func(sub []int) bool) {
	answers, done := make(chan []int), make(chan struct{})
	var finder sync.WaitGroup
	defer finder.Wait()
	defer close(done)
	finder.Add(1)
	go func() {
		defer finder.Done()
		defer close(answers)
		q.search(done, func(sub []int) bool {
			select {
			case answers <- sub:
				return true
			case <-done:
				return false
			}
		})
	}()
	for sub := range answers {
		if !yield(sub) {
			return
		}
	}
}
