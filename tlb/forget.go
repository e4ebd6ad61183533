package tlb

import (
	"maps"
	"slices"

	"cloister/api"
)

// Flush forgets all.
func (t *TLB) Flush() int {
	return t.forget(func(api.Tag) bool { return true })
}

// FlushCell forgets all of some cells.
func (t *TLB) FlushCell(cells ...int) int {
	return t.forget(func(tag api.Tag) bool { return slices.Contains(cells, tag.Cell) })
}

// Drop forgets one.
func (t *TLB) Drop(tag api.Tag) bool {
	return t.forget(func(x api.Tag) bool { return x == tag }) > 0
}

// forget has all go whose tags are such, and tells how many these were.
func (t *TLB) forget(goes func(api.Tag) bool) int {
	before := t.Len()
	t.order = slices.DeleteFunc(t.order, goes)
	maps.DeleteFunc(t.mappings, func(tag api.Tag, _ api.Mapping) bool { return goes(tag) })
	return before - t.Len()
}
