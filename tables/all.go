package tables

import (
	"iter"

	"cloister/api"
	"cloister/entry"
	"cloister/memory"
)

// table is the words of one as they were when it was read; one that does not
// lie in the memory is 0, which tells nothing.
type table [perTable]uint32

func readTable(m *memory.Memory, at uint32) *table {
	var t table
	for i := range t {
		word, _ := wordAt(m, at, uint32(i))
		t[i] = word.Word
	}
	return &t
}

// entries goes over those of one kind: their indexes, and what they are.
func (t *table) entries(k api.EntryKind) iter.Seq2[uint32, api.Entry] {
	return func(yield func(uint32, api.Entry) bool) {
		for i, w := range t {
			x, e := entry.Decode(w)
			if e == api.OK && x.Kind == k && !yield(uint32(i), x) {
				return
			}
		}
	}
}

// readAll reads a root and the tables that it tells, each once, by their
// frames.
func readAll(m *memory.Memory, root uint32) (*table, map[uint32]*table) {
	first, seconds := readTable(m, root), map[uint32]*table{}
	for _, x := range first.entries(api.EntryTable) {
		if seconds[x.Frame] == nil {
			seconds[x.Frame] = readTable(m, addressOf(x.Frame))
		}
	}
	return first, seconds
}

// All goes over all pages that are mapped.
func All(m *memory.Memory, root uint32) iter.Seq2[uint32, api.Entry] {
	return func(yield func(uint32, api.Entry) bool) {
		// All is read ahead: what is done to the memory meanwhile is not seen.
		first, seconds := readAll(m, root)
		for i, x := range first.entries(api.EntryTable) {
			for j, page := range seconds[x.Frame].entries(api.EntryPage) {
				if !yield(place{first: i, second: j}.virtual(), page) {
					return
				}
			}
		}
	}
}

// Ranges tells them as ranges.
func Ranges(m *memory.Memory, root uint32) []api.Range {
	var l []api.Range
	for at, page := range All(m, root) {
		if n := len(l); n > 0 && goesOn(l[n-1], at, page) {
			l[n-1].Pages++
			continue
		}
		l = append(l, api.Range{Virtual: at, Physical: addressOf(page.Frame), Pages: 1, Perm: page.Perm})
	}
	return l
}

// goesOn tells whether a page is the next one of a range.
func goesOn(r api.Range, at uint32, page api.Entry) bool {
	bytes := uint32(r.Pages) * api.PageSize
	return at == r.Virtual+bytes && addressOf(page.Frame) == r.Physical+bytes && page.Perm == r.Perm
}
