package tlb

import (
	"slices"

	"cloister/api"
)

// order is tags in the order of their use, the one that was used last first.
type order []api.Tag

// use has a tag, which may be new, be the one that was used last.
func (o *order) use(tag api.Tag) {
	at := slices.Index(*o, tag)
	if at < 0 {
		at = len(*o)
		*o = append(*o, tag)
	}
	copy((*o)[1:], (*o)[:at]) // those ahead of it go back by one, into its place
	(*o)[0] = tag
}

// oldest is the one that was used least recently, of one at least.
func (o order) oldest() api.Tag { return o[len(o)-1] }
