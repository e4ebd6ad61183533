package entry

import "cloister/api"

// The bits of a word that have a name, from the lowest on.
const (
	valid uint32 = 1 << iota
	read
	write
	execute
	table
)

const (
	permAt    = 1  // the permissions lie in a word as in a Perm, and so much higher
	frameAt   = 12 // the frame has all bits from here on
	named     = valid | read | write | execute | table
	strayBits = 1<<frameAt - 1 - named
)

func hasStrayBits(w uint32) bool {
	return w&strayBits != 0 || w&valid == 0 && w != 0
}

// wordOf is the word of an entry that may be.
func wordOf(e api.Entry) uint32 {
	w := e.Frame<<frameAt | uint32(e.Perm)<<permAt
	switch e.Kind {
	case api.EntryPage:
		w |= valid
	case api.EntryTable:
		w |= valid | table
	}
	return w
}

// entryOf is what a word without stray bits says, whether or not that may be.
func entryOf(w uint32) api.Entry {
	return api.Entry{
		Kind:  kindOf(w),
		Perm:  api.Perm(w>>permAt) & allPerms,
		Frame: w >> frameAt,
	}
}

func kindOf(w uint32) api.EntryKind {
	switch {
	case w&valid == 0:
		return api.EntryNone
	case w&table != 0:
		return api.EntryTable
	}
	return api.EntryPage
}
