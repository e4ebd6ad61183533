package tables

import (
	"iter"

	"cloister/api"
	"cloister/entry"
)

// virtualPages is how many pages a cell's addresses have.
const virtualPages = 1 << (2 * indexBits)

// mayBe tells whether a range may be. (Pages are counted, not bytes: the bytes
// of so many pages as a range can have are more than any number.)
func mayBe(r api.Range) bool {
	page, frame := r.Virtual/api.PageSize, r.Physical/api.PageSize
	_, e := entry.Encode(api.Entry{Kind: api.EntryPage, Perm: r.Perm, Frame: frame})
	return e == api.OK &&
		r.Virtual%api.PageSize == 0 && r.Physical%api.PageSize == 0 &&
		r.Pages >= 1 && r.Pages <= virtualPages-int(page) && r.Pages <= api.MaxPages-int(frame)
}

func allMayBe(l []api.Range) bool {
	for _, r := range l {
		if !mayBe(r) {
			return false
		}
	}
	return true
}

// pagesOf goes over the pages of ranges that may be, range by range and page
// by page: which word tells the page, and what it must be.
func pagesOf(l []api.Range) iter.Seq2[place, api.Entry] {
	return func(yield func(place, api.Entry) bool) {
		for _, r := range l {
			x := api.Entry{Kind: api.EntryPage, Perm: r.Perm, Frame: r.Physical / api.PageSize}
			for i := range uint32(r.Pages) {
				if !yield(placeOf(r.Virtual+i*api.PageSize), x) {
					return
				}
				x.Frame++
			}
		}
	}
}

// Need is how many pages of an arena a space with these ranges needs.
func Need(l ...api.Range) int {
	if !allMayBe(l) {
		return 0
	}
	var needed [perTable]bool // by the first index
	pages := 1                // the root
	for _, r := range l {
		last := r.Virtual + uint32(r.Pages-1)*api.PageSize
		for i := placeOf(r.Virtual).first; i <= placeOf(last).first; i++ {
			if !needed[i] {
				needed[i] = true
				pages++
			}
		}
	}
	return pages
}
