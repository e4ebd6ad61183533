package hours

import (
	"cmp"
	"slices"

	"cloister/api"
)

// ahead is how many windows start ahead of a tick: so it is also the number of
// the first one that does not. As no two start at one tick, it is the tick
// itself at most, and never wraps round.
func (h *Hours) ahead(tick uint64) uint64 {
	ofFrame, _ := slices.BinarySearchFunc(h.windows, tick%h.major, func(w api.Window, t uint64) int {
		return cmp.Compare(w.Start, t)
	})
	return tick/h.major*uint64(len(h.windows)) + uint64(ofFrame)
}

// window is window k, with the tick at which it starts; MaxTick, if that is
// later.
func (h *Hours) window(k uint64) api.Window {
	n := uint64(len(h.windows))
	frame, w := k/n, h.windows[k%n]
	if frame > (api.MaxTick-w.Start)/h.major { // asked by division, as the product may wrap round
		w.Start = api.MaxTick
		return w
	}
	w.Start += frame * h.major
	return w
}

// inTime is the tick for which one counts that may be behind the last one.
func inTime(tick uint64) uint64 { return min(tick, api.MaxTick) }
