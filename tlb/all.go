package tlb

import (
	"iter"

	"cloister/api"
)

// All goes over all, from the one used last on.
func (t *TLB) All() iter.Seq2[api.Tag, api.Mapping] {
	return func(yield func(api.Tag, api.Mapping) bool) {
		for _, s := range t.copied() { // not changed by what is done meanwhile
			if !yield(s.Tag, s.Mapping) {
				return
			}
		}
	}
}

// copied is all that is there now.
func (t *TLB) copied() []api.Slot {
	l := make([]api.Slot, len(t.order))
	for i, tag := range t.order {
		l[i] = api.Slot{Tag: tag, Mapping: t.mappings[tag]}
	}
	return l
}

// Slots tells all, from the one used last on.
func (t *TLB) Slots() []api.Slot {
	var l []api.Slot
	for tag, m := range t.All() {
		l = append(l, api.Slot{Tag: tag, Mapping: m})
	}
	return l
}
