package cache

import "cloister/api"

// line is one that is there.
type line struct {
	tag   uint32
	dirty bool
}

// set has its lines in the order of use, the one that was used last first.
type set struct {
	lines [api.MaxWays]line
	count int
}

// held is the lines that are there.
func (s *set) held() []line { return s.lines[:s.count] }

// find tells where the line with a tag stands, and whether it is there.
func (s *set) find(tag uint32) (int, bool) {
	for i, l := range s.held() {
		if l.tag == tag {
			return i, true
		}
	}
	return 0, false
}

// add has it hold one more line, which was used longest ago: can it be?
func (s *set) add(l line, ways int) bool {
	if _, there := s.find(l.tag); there || s.count == ways {
		return false
	}
	s.lines[s.count] = l
	s.count++
	return true
}

// use uses the line with a tag.
func (s *set) use(tag uint32, ways int, write bool) api.Touch {
	at, hit := s.find(tag)
	used, back := line{tag: tag}, false
	switch {
	case hit:
		used = s.lines[at]
	case s.count < ways:
		at = s.count
		s.count++
	default:
		at = ways - 1 // it goes, and its place is taken
		back = s.lines[at].dirty
	}
	used.dirty = used.dirty || write
	copy(s.lines[1:at+1], s.lines[:at])
	s.lines[0] = used
	return touch(hit, back)
}
