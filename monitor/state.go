package monitor

import (
	"slices"

	"cloister/api"
	"cloister/config"
	"cloister/memory"
	"cloister/queuing"
	"cloister/sampling"
)

// State is all that there is.
func (m *Monitor) State() api.State {
	blob, _ := config.Encode(m.machine.Config) // it was read of bytes, so it can be written
	return api.State{
		Blob:     blob,
		Tick:     m.now,
		Waits:    m.waits,
		Pages:    pagesOf(m.machine.Memory),
		Cells:    slices.Clone(m.cells),
		Lines:    m.cache.Lines(),
		Slots:    m.tlb.Slots(),
		Gic:      m.machine.Gic.State(),
		Samples:  each(m.machine.Samples, (*sampling.Port).State),
		Queues:   each(m.machine.Queues, (*queuing.Port).State),
		Arrivals: m.arrivals.sorted(),
	}
}

// pagesOf is all pages that are not all 0. (What All tells of each is the
// caller's own.)
func pagesOf(m *memory.Memory) []api.Page {
	var pages []api.Page
	for number, b := range m.All() {
		pages = append(pages, api.Page{Number: number, Bytes: b})
	}
	return pages
}

// each is what is told of each thing of a list.
func each[T, S any](l []T, tell func(T) S) []S {
	var told []S
	for _, x := range l {
		told = append(told, tell(x))
	}
	return told
}
