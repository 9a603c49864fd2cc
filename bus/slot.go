package bus

import (
	"slices"
	"strings"

	"casement/api"
)

const (
	maxKind = 8  // the greatest kind that a slot may be subscribed to
	maxText = 64 // bytes of an event's text
)

// slot is what waits for a plugin. Of one that isn't open all is zero.
type slot struct {
	open    bool
	kinds   [maxKind]bool // kind 1 is the first one
	queue   []api.Event   // the oldest first
	dropped int
}

func isKind(kind int) bool { return kind >= 1 && kind <= maxKind }

// wants tells whether a slot is subscribed to a kind; an event may be of kinds to which none can be.
func (s *slot) wants(kind int) bool { return isKind(kind) && s.kinds[kind-1] }

// put puts an event into the queue; false, if it is dropped.
func (s *slot) put(e api.Event) bool {
	if len(s.queue) == api.MaxQueue {
		s.dropped++
		return false
	}
	// A mere piece of the text would keep all of it.
	e.Text = strings.Clone(e.Text[:min(len(e.Text), maxText)])
	s.queue = append(s.queue, e)
	return true
}

// take takes the oldest event out of a queue that has one.
func (s *slot) take() api.Event {
	e := s.queue[0]
	s.queue = slices.Delete(s.queue, 0, 1)
	return e
}
