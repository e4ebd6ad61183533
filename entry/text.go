package entry

import (
	"strconv"
	"strings"

	"cloister/api"
)

const (
	noneText  = "-"
	tableHead = "tab"
	permHead  = "rwx" // a letter for each bit of a Perm, from the lowest on
	notThere  = '-'
	digits    = 3
	textBytes = len(permHead) + len(" ") + digits // of a page or a table
)

// Show writes an entry as a text.
func Show(e api.Entry) string {
	if check(e) != api.OK {
		return ""
	}
	switch e.Kind {
	case api.EntryPage:
		return showPerm(e.Perm) + " " + showFrame(e.Frame)
	case api.EntryTable:
		return tableHead + " " + showFrame(e.Frame)
	}
	return noneText
}

// Read reads such a text.
func Read(s string) (api.Entry, api.Errno) {
	e := likely(s)
	if Show(e) != s {
		return api.Entry{}, api.ErrEntryText
	}
	return e, api.OK
}

// likely is the only entry that a text can be that of. What is wrong with the
// text is not looked for here: Read holds it against what is shown.
func likely(s string) api.Entry {
	if len(s) != textBytes {
		return api.Entry{}
	}
	head, frame := s[:len(permHead)], readFrame(s[textBytes-digits:])
	if head == tableHead {
		return api.Entry{Kind: api.EntryTable, Frame: frame}
	}
	return api.Entry{Kind: api.EntryPage, Perm: readPerm(head), Frame: frame}
}

func showPerm(p api.Perm) string {
	letters := []byte(permHead)
	for i := range letters {
		if p>>i&1 == 0 {
			letters[i] = notThere
		}
	}
	return string(letters)
}

func readPerm(head string) api.Perm {
	var p api.Perm
	for i := range len(permHead) {
		if head[i] == permHead[i] {
			p |= 1 << i
		}
	}
	return p
}

func showFrame(frame uint32) string {
	s := strconv.FormatUint(uint64(frame), 16)
	return strings.Repeat("0", digits-len(s)) + s
}

// readFrame answers 0 where there is no number: that is shown otherwise.
func readFrame(s string) uint32 {
	n, _ := strconv.ParseUint(s, 16, 32)
	return uint32(n)
}
