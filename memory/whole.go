package memory

import (
	"bytes"
	"iter"
	"maps"
	"slices"
)

// All goes over the pages that are not all 0.
func (m *Memory) All() iter.Seq2[uint32, []byte] {
	return func(yield func(uint32, []byte) bool) {
		// A clone is not changed by what is done meanwhile, and, since nobody
		// else knows it, its pages can be given away.
		pages := m.Clone().written
		for _, number := range slices.Sorted(maps.Keys(pages)) {
			if !yield(number, pages[number][:]) {
				return
			}
		}
	}
}

// Clone is another one with the same bytes. Pages that are all 0 need not be
// kept there.
func (m *Memory) Clone() *Memory {
	c := &Memory{count: m.count, written: map[uint32]*page{}}
	for number, p := range m.written {
		if *p != (page{}) {
			*c.page(number) = *p
		}
	}
	return c
}

// Equal tells whether another one has the same.
func (m *Memory) Equal(o *Memory) bool {
	return o != nil && m.count == o.count && m.has(o) && o.has(m)
}

// has tells whether all that another one tells stands here too.
func (m *Memory) has(o *Memory) bool {
	for number, b := range o.All() {
		if p := m.written[number]; p == nil || !bytes.Equal(p[:], b) {
			return false
		}
	}
	return true
}
