package session

// Wait is how long it takes till a message is said again, that was so often.
func Wait(r Rules, tries int) uint64 {
	first := max(r.Retry, 1)
	most := max(r.RetryMax, first)
	doubled := max(tries, 0)
	// The bound is halved, not the wait doubled, which may turn over; a bound that is halved too often is 0.
	if first > most>>doubled {
		return most
	}
	return first << doubled
}

// Timer is when a message is to be said again.
type Timer struct {
	rules Rules
	said  uint64
	again int
}

// Start is a timer of a message that is said now.
func Start(r Rules, now uint64) *Timer { return &Timer{rules: r, said: now} }

// Due tells whether it is to be said again.
func (t *Timer) Due(now uint64) bool {
	return t != nil && since(t.said, now) >= Wait(t.rules, t.again)
}

// Again tells whether it may be said again; then it is.
func (t *Timer) Again(now uint64) bool {
	if t == nil || t.again >= t.rules.Tries {
		return false
	}
	t.said = now
	t.again++
	return true
}

// since is how long ago a moment was; one that is still to come was just now.
func since(moment, now uint64) uint64 { return now - min(moment, now) }
