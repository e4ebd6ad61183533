package valid

import (
	"slices"

	"cloister/api"
)

// physical is whose pages are meant where it is no cell's addresses.
const physical = 0

// page of the addresses of a cell, or of physical memory.
type page struct {
	whose  int
	number uint32
}

// pages that were seen.
type pages map[page]struct{}

// meet tells whether one of so many pages, from an address on, was seen before;
// if not, all of them are seen from now on.
func (p pages) meet(whose int, from uint32, count int) bool {
	for i := range uint32(count) {
		x := page{whose, from/api.PageSize + i}
		if _, seen := p[x]; seen {
			return true
		}
		p[x] = struct{}{}
	}
	return false
}

// meeting: memory that two ranges have, or a range and the monitor.
func meeting(g api.Config) (int, bool) {
	seen := pages{}
	seen.meet(physical, g.OwnBase, g.OwnPages)
	return firstCell(g, func(_ int, c api.Cell) bool {
		return slices.ContainsFunc(c.Ranges, func(r api.Range) bool {
			return seen.meet(physical, r.Physical, r.Pages)
		})
	})
}
