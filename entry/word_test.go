package entry_test

import (
	"math"
	"slices"
	"testing"

	"cloister/api"
	"cloister/entry"
)

// wrongOf tells what is wrong first with an entry, by the chapter's table,
// row by row.
func wrongOf(e api.Entry) api.Errno {
	rows := map[api.EntryKind]struct {
		perms  []api.Perm
		frames uint32
	}{
		0: {[]api.Perm{0}, 1},
		1: {pagePerms, 4096},
		2: {[]api.Perm{0}, 4096},
	}
	row, there := rows[e.Kind]
	switch {
	case !there:
		return api.ErrEntryKind
	case !slices.Contains(row.perms, e.Perm):
		return api.ErrEntryPerm
	case e.Frame >= row.frames:
		return api.ErrEntryFrame
	}
	return api.OK
}

// wordOf is the word of an entry that may be, by sums.
func wordOf(e api.Entry) uint32 {
	switch e.Kind {
	case api.EntryPage:
		return 1 + 2*uint32(e.Perm) + 4096*e.Frame
	case api.EntryTable:
		return 1 + 16 + 4096*e.Frame
	}
	return 0
}

// TestEncode: kinds, all Perms, bounds of frames, in all their pairings: the
// word, or what is wrong first.
func TestEncode(t *testing.T) {
	for _, k := range []api.EntryKind{math.MinInt, math.MinInt32, -256, -2, -1, 0, 1, 2, 3, 4, 8, 256, 257, 258, math.MaxInt32, 1 << 32, 1<<32 + 1, math.MaxInt} {
		for p := range 256 {
			for _, frame := range frames {
				e := api.Entry{Kind: k, Perm: api.Perm(p), Frame: frame}
				wrong := wrongOf(e)
				want := uint32(0)
				if wrong == api.OK {
					want = wordOf(e)
				}
				wantEncode(t, e, want, wrong)
			}
		}
	}
}

func TestEncodeWrong(t *testing.T) {
	for _, x := range []struct {
		e     api.Entry
		wrong api.Errno
	}{
		{api.Entry{Kind: 3}, api.ErrEntryKind},
		{api.Entry{Kind: -1}, api.ErrEntryKind},
		{api.Entry{Kind: 3, Perm: 8, Frame: 4096}, api.ErrEntryKind},
		{api.Entry{Perm: api.Read}, api.ErrEntryPerm},
		{api.Entry{Perm: 8}, api.ErrEntryPerm},
		{api.Entry{Perm: api.Read, Frame: 1}, api.ErrEntryPerm},
		{api.Entry{Frame: 1}, api.ErrEntryFrame},
		{page(0, 0), api.ErrEntryPerm},
		{page(api.Write, 0), api.ErrEntryPerm},
		{page(api.Write|api.Exec, 0), api.ErrEntryPerm},
		{page(api.Read|8, 0), api.ErrEntryPerm},
		{page(128|api.Read, 4096), api.ErrEntryPerm},
		{page(api.Read, 4096), api.ErrEntryFrame},
		{page(api.Read, lastWord), api.ErrEntryFrame},
		{api.Entry{Kind: api.EntryTable, Perm: api.Read}, api.ErrEntryPerm},
		{api.Entry{Kind: api.EntryTable, Perm: 16, Frame: 4096}, api.ErrEntryPerm},
		{table(4096), api.ErrEntryFrame},
	} {
		wantEncode(t, x.e, 0, x.wrong)
	}
}

// decoded is what a word says, by its digits; what the low twelve bits can be
// is written out.
func decoded(w uint32) (api.Entry, api.Errno) {
	low, frame := w%4096, w/4096
	switch {
	case w == 0:
		return api.Entry{}, api.OK
	case low >= 32 || low%2 == 0:
		return api.Entry{}, api.ErrEntryBits
	case low != 17 && !slices.Contains([]uint32{3, 7, 9, 11, 15}, low):
		return api.Entry{}, api.ErrEntryPerm
	case frame >= 4096:
		return api.Entry{}, api.ErrEntryFrame
	case low == 17:
		return table(frame), api.OK
	}
	return page(api.Perm(low/2), frame), api.OK
}

// TestDecode: all low bits with the bounds of frames, and the bits that have
// a name with all frames.
func TestDecode(t *testing.T) {
	for low := range uint32(4096) {
		for _, frame := range frames {
			w := frame<<12 | low
			e, wrong := decoded(w)
			wantDecode(t, w, e, wrong)
		}
	}
	for frame := range uint32(1 << 20) {
		for low := range uint32(32) {
			w := frame<<12 | low
			want, wrong := decoded(w)
			if e, f := entry.Decode(w); e != want || f != wrong {
				t.Fatalf("Decode(%08x) = %v, %d, want %v, %d", w, e, f, want, wrong)
			}
		}
	}
}

func TestDecodeWrong(t *testing.T) {
	for _, x := range []struct {
		w     uint32
		wrong api.Errno
	}{
		{0x00000010, api.ErrEntryBits}, // table, not valid
		{0x00001000, api.ErrEntryBits}, // a frame, not valid
		{0x80000000, api.ErrEntryBits},
		{0x00000023, api.ErrEntryBits}, // bit 5
		{0x00000803, api.ErrEntryBits}, // bit 11
		{0x00000811, api.ErrEntryBits},
		{0x01000025, api.ErrEntryBits}, // and no such permissions, and no such frame
		{0x01000002, api.ErrEntryBits},
		{lastWord, api.ErrEntryBits},
		{0x00000001, api.ErrEntryPerm}, // none
		{0x0000000d, api.ErrEntryPerm}, // -wx
		{0x00000013, api.ErrEntryPerm}, // a table that may be read
		{0x00000019, api.ErrEntryPerm}, // a table that may be executed
		{0x0000001f, api.ErrEntryPerm},
		{0x01000005, api.ErrEntryPerm}, // and no such frame
		{0x01000013, api.ErrEntryPerm},
		{0x01000011, api.ErrEntryFrame},
		{0xfffff003, api.ErrEntryFrame},
		{0x8000000f, api.ErrEntryFrame},
	} {
		wantDecode(t, x.w, api.Entry{}, x.wrong)
	}
}

// TestWordsGoThereAndBack: all entries have a word, no two the same.
func TestWordsGoThereAndBack(t *testing.T) {
	of := map[uint32]api.Entry{}
	for _, e := range all() {
		w, f := entry.Encode(e)
		if f != api.OK || w != wordOf(e) {
			t.Fatalf("Encode(%v) = %08x, %d, want %08x", e, w, f, wordOf(e))
		}
		if other, there := of[w]; there {
			t.Fatalf("%v and %v have the word %08x", other, e, w)
		}
		of[w] = e
		wantDecode(t, w, e, api.OK)
	}
}

// TestBitsTurned: each of the 32 bits of each word, one by one.
func TestBitsTurned(t *testing.T) {
	for _, e := range all() {
		w, _ := entry.Encode(e)
		for bit := range 32 {
			turned := w ^ 1<<bit
			other, f := entry.Decode(turned)
			want, wrong := decoded(turned)
			if other != want || f != wrong {
				t.Fatalf("Decode(%08x) = %v, %d, want %v, %d", turned, other, f, want, wrong)
			}
			if f == api.OK && other == e {
				t.Fatalf("%08x and %08x are both %v", w, turned, e)
			}
		}
	}
}
