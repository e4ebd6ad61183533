package entry_test

import (
	"math/rand"
	"strings"
	"testing"

	"cloister/api"
	"cloister/entry"
)

// texts are the texts of all entries, written digit by digit.
func texts() map[string]api.Entry {
	const digits = "0123456789abcdef"
	heads := map[string]api.Entry{
		"r--": {Kind: api.EntryPage, Perm: 1}, "rw-": {Kind: api.EntryPage, Perm: 3}, "--x": {Kind: api.EntryPage, Perm: 4},
		"r-x": {Kind: api.EntryPage, Perm: 5}, "rwx": {Kind: api.EntryPage, Perm: 7}, "tab": {Kind: api.EntryTable},
	}
	of := map[string]api.Entry{"-": {}}
	for head, e := range heads {
		for frame := range uint32(lastFrame + 1) {
			e.Frame = frame
			of[head+" "+string([]byte{digits[frame/256], digits[frame/16%16], digits[frame%16]})] = e
		}
	}
	return of
}

// TestTextsGoThereAndBack: all entries have a text, each is that of one.
func TestTextsGoThereAndBack(t *testing.T) {
	of := texts()
	entries := all()
	if len(of) != len(entries) {
		t.Fatalf("%d texts of %d entries", len(of), len(entries))
	}
	shown := map[string]int{}
	for _, e := range entries {
		s := entry.Show(e)
		if was, there := of[s]; !there || was != e {
			t.Fatalf("Show(%v) = %q", e, s)
		}
		shown[s]++
		wantRead(t, s, e, api.OK)
	}
	if len(shown) != len(entries) {
		t.Errorf("%d texts were shown of %d entries", len(shown), len(entries))
	}
}

// TestShowsNothing: of what Encode refuses, and of that alone.
func TestShowsNothing(t *testing.T) {
	for k := api.EntryKind(-3); k <= 5; k++ {
		for p := range 256 {
			for _, frame := range frames {
				e := api.Entry{Kind: k, Perm: api.Perm(p), Frame: frame}
				_, f := entry.Encode(e)
				if s := entry.Show(e); (s == "") != (f != api.OK) {
					t.Errorf("Show(%v) = %q, Encode tells %d", e, s, f)
				}
			}
		}
	}
}

// wantLike reads a text, which must be one of the known ones, or none.
func wantLike(t *testing.T, of map[string]api.Entry, s string) {
	t.Helper()
	e, there := of[s]
	if there {
		wantRead(t, s, e, api.OK)
	} else {
		wantRead(t, s, api.Entry{}, api.ErrEntryText)
	}
}

func TestTextsThatAreNone(t *testing.T) {
	for _, s := range []string{
		"", " ", "--", "---", "- ", " -", "-\n", "\x00", "-\x00", "none", "0", "000", "r", "t",
		"tab", "tab ", "tab 0", "tab 00", "tab 0000", "tab 1000", "tab  00", "tab\t000", "tab_000", "tab-000", "tab00 0", "tab000", "tab 000 ", " tab 000", "tab 000\n", "tab 000\x00", "\x00tab 000",
		"r-- 00", "r-- 0000", "r--  000", "r--000", "r--0000", "rw 012", "rw-  12", "rw- 12", "rw- 12 ", "rw- 012 ", " rw- 012",
		"--- 000", "-w- 000", "-wx 000", "xwr 000", "wr- 000", "-r- 000", "rrr 000", "r-w 000", "r x 000", "r.. 000", "r__ 000",
		"ta- 000", "t-- 000", "-a- 000", "--b 000", "tax 000", "rab 000", "rwb 000", "twx 000", "bat 000",
		"R-- 000", "RW- 000", "rwX 000", "TAB 000", "Tab 000", "taB 000",
		"r-- 00A", "r-- FFF", "tab ABC", "tab aBc", "r-- 00g", "r-- 00G", "r-- 0x1", "r-- x01", "r-- 0_1", "r-- 1e+", "r-- .01", "r-- -01", "r-- +01", "r--  01", "r-- 01 ", "r-- 0 1", "r-- ---", "r-- \x00\x00\x00", "r-- 00/", "r-- 00:", "r-- 00`", "r-- 00@",
		// signs that are no single byte, so that there are seven signs, or seven bytes
		"é", "–", "r–- 000", "r-– 000", "ŕ-- 000", "é- 000", "r-é000", "r-- é0", "r-- 0é", "r-- ０", "r-- ０００", "r-- 00０", "r--\u00a0000", "r--\u00a000", "tab\u2003000", "täb 000", "tä 000", "ｒ-- 000", "ｔ 000", "r-- 00\u0301", "\ufeff- 000", "世界1", "世界 000",
		// bytes that are no text at all
		"\xff", "\xff-- 000", "r\x80- 000", "r--\xff000", "r-- 00\xff", "tab \xc3\x28\x30", "\xe4\xb8-- 000", "r-- \xed\xa0\x80",
		strings.Repeat("r", 7), strings.Repeat("-", 7), strings.Repeat(" ", 7), strings.Repeat("0", 7),
		strings.Repeat("tab 000", 2), strings.Repeat("-", 1<<16), "r-- 000" + strings.Repeat(" ", 1<<16), "r-- " + strings.Repeat("0", 1<<16) + "fff",
	} {
		wantRead(t, s, api.Entry{}, api.ErrEntryText)
	}
}

// TestTextsChanged: each text of some frames, with each byte at each place in
// the place of another, beside it, or gone.
func TestTextsChanged(t *testing.T) {
	of := texts()
	for s, e := range of {
		if f := e.Frame; f != 0 && f != 0x9a && f != 0xabc && f != lastFrame {
			continue
		}
		for at := range len(s) + 1 {
			for b := range 256 {
				sign := string([]byte{byte(b)})
				wantLike(t, of, s[:at]+sign+s[at:])
				if at < len(s) {
					wantLike(t, of, s[:at]+sign+s[at+1:])
				}
			}
			wantLike(t, of, s[:at])
			wantLike(t, of, s[at:])
			if at < len(s) {
				wantLike(t, of, s[:at]+s[at+1:])
			}
		}
	}
}

// threes are all texts of three of these bytes.
func threes(alphabet string) []string {
	var l []string
	for i := range len(alphabet) {
		for j := range len(alphabet) {
			for k := range len(alphabet) {
				l = append(l, string([]byte{alphabet[i], alphabet[j], alphabet[k]}))
			}
		}
	}
	return l
}

// TestHeadsAndFrames: what may stand ahead of a frame, and behind the blank.
func TestHeadsAndFrames(t *testing.T) {
	of := texts()
	for _, head := range threes("rwxtab- RWXTAB01\x00\xff") {
		for _, tail := range []string{" 000", " fff", "-000", "   0"} {
			wantLike(t, of, head+tail)
		}
	}
	for _, frame := range threes("0123456789abcdefABCDEFgGxX+-_. /:@`\x00\xff") {
		wantLike(t, of, "rwx "+frame)
		wantLike(t, of, "tab "+frame)
	}
}

// TestRandomTexts: of the bytes that entries are shown by.
func TestRandomTexts(t *testing.T) {
	const alphabet = "rwxtab--- 0019f"
	of := texts()
	r := rand.New(rand.NewSource(4))
	for range 200000 {
		b := make([]byte, r.Intn(10))
		for i := range b {
			b[i] = alphabet[r.Intn(len(alphabet))]
		}
		wantLike(t, of, string(b))
	}
}
