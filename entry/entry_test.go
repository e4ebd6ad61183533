package entry_test

import (
	"math"
	"testing"

	"cloister/api"
	"cloister/entry"
)

const (
	lastFrame = 4095
	lastWord  = math.MaxUint32
)

// pagePerms are those that a page may have, written out: read or execute at
// least, write only with read.
var pagePerms = []api.Perm{1, 3, 4, 5, 7}

// frames are the bounds of a frame, what is beyond them, and each bit of it.
var frames = []uint32{0, 1, 2, 4, 8, 15, 16, 18, 32, 64, 128, 255, 256, 512, 1024, 2048, 0xabc, 4094, lastFrame, 4096, 4097, 8191, 8192, 1 << 16, 1<<20 - 1, 1 << 20, 1<<20 + 5, 1 << 31, lastWord}

func page(p api.Perm, frame uint32) api.Entry {
	return api.Entry{Kind: api.EntryPage, Perm: p, Frame: frame}
}

func table(frame uint32) api.Entry { return api.Entry{Kind: api.EntryTable, Frame: frame} }

// all are all entries that may be.
func all() []api.Entry {
	entries := []api.Entry{{}}
	for frame := range uint32(lastFrame + 1) {
		for _, p := range pagePerms {
			entries = append(entries, page(p, frame))
		}
		entries = append(entries, table(frame))
	}
	return entries
}

func wantEncode(t *testing.T, e api.Entry, want uint32, wrong api.Errno) {
	t.Helper()
	if w, f := entry.Encode(e); w != want || f != wrong {
		t.Errorf("Encode(%v) = %08x, %d, want %08x, %d", e, w, f, want, wrong)
	}
}

func wantDecode(t *testing.T, w uint32, want api.Entry, wrong api.Errno) {
	t.Helper()
	if e, f := entry.Decode(w); e != want || f != wrong {
		t.Errorf("Decode(%08x) = %v, %d, want %v, %d", w, e, f, want, wrong)
	}
}

func wantShow(t *testing.T, e api.Entry, want string) {
	t.Helper()
	if s := entry.Show(e); s != want {
		t.Errorf("Show(%v) = %q, want %q", e, s, want)
	}
}

func wantRead(t *testing.T, s string, want api.Entry, wrong api.Errno) {
	t.Helper()
	if e, f := entry.Read(s); e != want || f != wrong {
		t.Errorf("Read(%q) = %v, %d, want %v, %d", s, e, f, want, wrong)
	}
}

func TestErrorNumbers(t *testing.T) {
	for want, e := range []api.Errno{api.ErrEntryKind, api.ErrEntryPerm, api.ErrEntryFrame, api.ErrEntryBits, api.ErrEntryText} {
		if int(e) != 40+want {
			t.Errorf("error %d, want %d", e, 40+want)
		}
	}
}

func TestExamples(t *testing.T) {
	for _, x := range []struct {
		e api.Entry
		w uint32
		s string
	}{
		{page(api.Read|api.Write, 18), 0x00012007, "rw- 012"},
		{table(5), 0x00005011, "tab 005"},
	} {
		wantEncode(t, x.e, x.w, api.OK)
		wantDecode(t, x.w, x.e, api.OK)
		wantShow(t, x.e, x.s)
		wantRead(t, x.s, x.e, api.OK)
	}
	wantDecode(t, 0x00000002, api.Entry{}, api.ErrEntryBits)
	wantDecode(t, 0x00000005, api.Entry{}, api.ErrEntryPerm)
	wantDecode(t, 0x01000003, api.Entry{}, api.ErrEntryFrame)
	for _, a := range []api.Access{api.AccessWrite, 0} {
		if entry.Allows(api.Read|api.Exec, a) {
			t.Errorf("r-x lets the access %d by", a)
		}
	}
}

// TestAllows: every Perm, those too that no page has, and every access; and
// what is no access.
func TestAllows(t *testing.T) {
	bit := map[api.Access]api.Perm{api.AccessRead: 1, api.AccessWrite: 2, api.AccessExec: 4}
	accesses := []api.Access{math.MinInt, math.MinInt + 1, math.MinInt32, math.MaxInt32, math.MaxInt, math.MaxInt - 1, 1 << 32, 1<<32 + 1, 1<<32 + 3}
	for a := api.Access(-300); a <= 300; a++ {
		accesses = append(accesses, a)
	}
	for p := range 256 {
		for _, a := range accesses {
			want := api.Perm(p)&bit[a] != 0
			if got := entry.Allows(api.Perm(p), a); got != want {
				t.Errorf("Allows(%d, %d) = %v, want %v", p, a, got, want)
			}
		}
	}
}
