package bound

import "sync"

// Meter holds what is used of a limit.
type Meter struct {
	lock  sync.Mutex // makes each call one act: asking whether n fits and using n can't be torn apart
	limit uint64     // never written again
	used  uint64     // never above limit, so that neither a sum nor a difference wraps
}

// NewMeter is a meter with nothing used.
func NewMeter(limit uint64) *Meter { return &Meter{limit: limit} }

// Spend uses n, if that fits whole.
func (m *Meter) Spend(n uint64) bool {
	if m == nil {
		return false
	}
	m.lock.Lock()
	defer m.lock.Unlock()
	if n > m.limit-m.used {
		return false
	}
	m.used += n
	return true
}

// Refund gives back n, at most what is used.
func (m *Meter) Refund(n uint64) {
	if m == nil {
		return
	}
	m.lock.Lock()
	defer m.lock.Unlock()
	m.used -= min(n, m.used)
}

// Used tells what is used.
func (m *Meter) Used() uint64 {
	if m == nil {
		return 0
	}
	m.lock.Lock()
	defer m.lock.Unlock()
	return m.used
}

// Left tells what is left.
func (m *Meter) Left() uint64 {
	if m == nil {
		return 0
	}
	m.lock.Lock()
	defer m.lock.Unlock()
	return m.limit - m.used
}
