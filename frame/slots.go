package frame

import "underpaint/api"

// slots is what lies in which slot, told by the pass that made it.
type slots struct {
	// one more than the pass's number, so that 0 is a slot in which nothing lies
	made [api.MaxSlots]int
}

// put: what the pass made lies in the slot from now on.
func (s *slots) put(slot, pass int) { s.made[slot] = pass + 1 }

// maker is the pass that made what lies in the slot, if something does.
func (s *slots) maker(slot int) (pass int, there bool) {
	if s.made[slot] == 0 {
		return 0, false
	}
	return s.made[slot] - 1, true
}

// sourcesOf are the passes that made what p takes, if all of it is there.
func (s *slots) sourcesOf(p api.Pass) (passes []int, there bool) {
	for _, slot := range takes(p) {
		pass, there := s.maker(slot)
		if !there {
			return nil, false
		}
		passes = append(passes, pass)
	}
	return passes, true
}
