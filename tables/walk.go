package tables

import (
	"cloister/api"
	"cloister/entry"
	"cloister/memory"
)

// Walk looks for an address: where it is, what was read on the way, why it may not be.
func Walk(m *memory.Memory, root, virtual uint32, a api.Access) (uint32, []api.WalkStep, api.Fault) {
	x := placeOf(virtual)
	one, inside := wordAt(m, root, x.first)
	if !inside {
		return 0, nil, api.FaultOutside
	}
	table, fault := read(one.Word, api.EntryTable)
	if fault != api.FaultNone {
		return 0, []api.WalkStep{one}, fault
	}
	two, inside := wordAt(m, addressOf(table.Frame), x.second)
	if !inside {
		return 0, []api.WalkStep{one}, api.FaultOutside
	}
	steps := []api.WalkStep{one, two}
	page, fault := readPage(m, two.Word, a)
	if fault != api.FaultNone {
		return 0, steps, fault
	}
	return addressOf(page.Frame) + virtual%api.PageSize, steps, api.FaultNone
}

// read is the entry of a word, where one of this kind must stand.
func read(w uint32, k api.EntryKind) (api.Entry, api.Fault) {
	x, e := entry.Decode(w)
	switch {
	case e != api.OK:
		return api.Entry{}, api.FaultMalformed
	case x.Kind == api.EntryNone:
		return api.Entry{}, api.FaultUnmapped
	case x.Kind != k:
		return api.Entry{}, api.FaultMalformed
	}
	return x, api.FaultNone
}

// readPage is the entry of a page that may be come to. Who may not do this
// there gets to know no more than that, wherever the page is.
func readPage(m *memory.Memory, w uint32, a api.Access) (api.Entry, api.Fault) {
	page, fault := read(w, api.EntryPage)
	switch {
	case fault != api.FaultNone:
		return api.Entry{}, fault
	case !entry.Allows(page.Perm, a):
		return api.Entry{}, api.FaultDenied
	case !hasFrame(m, page.Frame):
		return api.Entry{}, api.FaultOutside
	}
	return page, api.FaultNone
}
