package tables

import (
	"math"

	"cloister/api"
	"cloister/entry"
	"cloister/memory"
)

const (
	indexBits  = 10
	offsetBits = 12
	wordSize   = 4
	perTable   = 1 << indexBits // words of a table
)

// place is which word tells a page: the root's word of the first index tells
// the table, and the table's word of the second index the page.
type place struct{ first, second uint32 }

func placeOf(virtual uint32) place {
	page := virtual >> offsetBits
	return place{first: page >> indexBits, second: page % perTable}
}

// virtual is the address that a cell sees of the page.
func (p place) virtual() uint32 {
	return (p.first<<indexBits | p.second) << offsetBits
}

// addressOf is where a frame begins.
func addressOf(frame uint32) uint32 { return frame * api.PageSize }

// hasFrame tells whether a frame lies in a memory.
func hasFrame(m *memory.Memory, frame uint32) bool { return frame < uint32(m.Pages()) }

// wordAt reads a table's word of an index, if it lies in the memory. (A root
// may be any number; where its words reach beyond all addresses, they are not
// to be found at the memory's beginning.)
func wordAt(m *memory.Memory, table, index uint32) (api.WalkStep, bool) {
	at := uint64(table) + wordSize*uint64(index)
	if m == nil || at > math.MaxUint32 {
		return api.WalkStep{}, false
	}
	w, e := m.Load(uint32(at), wordSize)
	if e != api.OK {
		return api.WalkStep{}, false
	}
	return api.WalkStep{At: uint32(at), Word: w}, true
}

// store writes an entry as the word of an index. No error can come of it: only
// entries that may be are stored, in tables that lie in the memory.
func store(m *memory.Memory, table, index uint32, x api.Entry) {
	w, _ := entry.Encode(x)
	m.Store(table+wordSize*index, wordSize, w)
}
