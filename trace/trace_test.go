package trace_test

import (
	"bytes"
	"encoding/binary"
	"fmt"
	"hash/crc32"
	"math"
	"math/rand"
	"slices"
	"testing"

	"cloister/api"
	"cloister/trace"
)

const (
	head = 8 // bytes ahead of the first row
	row  = 22
	most = math.MaxUint32
)

// Kinds and faults by their words, as the chapter has them.
var (
	kinds  = []string{1: "load", 2: "call", 3: "fault", 4: "irq", 5: "clock", 6: "halt", 7: "say"}
	faults = []string{1: "align", 2: "outside", 3: "unmapped", 4: "malformed", 5: "denied", 6: "illegal"}
)

// rowsOf is the rows of observations, whether they may be or not.
func rowsOf(l ...api.Obs) []byte {
	b := make([]byte, 0, len(l)*row)
	for _, o := range l {
		b = binary.LittleEndian.AppendUint64(b, o.Tick)
		b = append(b, byte(o.Cell), byte(o.Kind))
		b = binary.LittleEndian.AppendUint32(b, o.PC)
		b = binary.LittleEndian.AppendUint32(b, o.A)
		b = binary.LittleEndian.AppendUint32(b, o.B)
	}
	return b
}

// summed is bytes with their sum behind them.
func summed(b []byte) []byte {
	return binary.LittleEndian.AppendUint32(slices.Clone(b), crc32.ChecksumIEEE(b))
}

// bytesOf is the trace of observations, whether they may be or not.
func bytesOf(l ...api.Obs) []byte {
	b := binary.LittleEndian.AppendUint32([]byte("CLTR"), uint32(len(l)))
	return summed(append(b, rowsOf(l...)...))
}

// lineOf is the line of an observation that may be.
func lineOf(o api.Obs) string {
	s := fmt.Sprintf("%d %d %s %08x", o.Tick, o.Cell, kinds[o.Kind], o.PC)
	switch o.Kind {
	case api.ObsLoad, api.ObsCall:
		s += fmt.Sprintf(" %08x %08x", o.A, o.B)
	case api.ObsFault:
		s += fmt.Sprintf(" %s %08x", faults[o.A], o.B)
	case api.ObsIrq:
		s += fmt.Sprintf(" %d", o.A)
	case api.ObsClock:
		s += fmt.Sprintf(" %08x%08x", o.B, o.A)
	case api.ObsSay:
		s += fmt.Sprintf(" %08x", o.A)
	}
	return s + "\n"
}

func textOf(l ...api.Obs) string {
	s := ""
	for _, o := range l {
		s += lineOf(o)
	}
	return s
}

func pick[T any](random *rand.Rand, l ...T) T { return l[random.Intn(len(l))] }

// anyWord is any number, often one at a bound.
func anyWord(random *rand.Rand) uint32 {
	return pick(random, 0, 1, 6, 7, 31, 32, 1<<31-1, 1<<31, most, random.Uint32(), random.Uint32()>>random.Intn(32))
}

// anyObs is any observation that may be.
func anyObs(random *rand.Rand) api.Obs {
	o := api.Obs{
		Tick: pick(random, 0, 1, api.MaxTick, random.Uint64()>>1, random.Uint64()>>(1+random.Intn(63))),
		Cell: 1 + random.Intn(api.MaxCells), Kind: api.ObsKind(1 + random.Intn(7)),
		PC: anyWord(random), A: anyWord(random), B: anyWord(random),
	}
	switch o.Kind {
	case api.ObsFault:
		o.A = 1 + uint32(random.Intn(6))
	case api.ObsIrq:
		o.A, o.B = uint32(random.Intn(32)), 0
	case api.ObsClock:
		o.B &= 1<<31 - 1
	case api.ObsHalt:
		o.A, o.B = 0, 0
	case api.ObsSay:
		o.B = 0
	}
	return o
}

// anyList is few that may be, so that some are the same.
func anyList(random *rand.Rand, n int) []api.Obs {
	l := make([]api.Obs, n)
	for i := range l {
		l[i] = anyObs(random)
		if i > 0 && random.Intn(4) == 0 {
			l[i] = l[random.Intn(i)]
		}
	}
	return l
}

func wantEncode(t testing.TB, want []byte, l ...api.Obs) {
	t.Helper()
	if b, e := trace.Encode(l...); !bytes.Equal(b, want) || e != api.OK {
		t.Errorf("Encode(%v) = %x, %d, want %x", l, b, e, want)
	}
}

func wantDecode(t testing.TB, b []byte, want ...api.Obs) {
	t.Helper()
	if l, e, at := trace.Decode(b); !slices.Equal(l, want) || e != api.OK || at != 0 {
		t.Errorf("Decode(%x) = %v, %d, %d, want %v", b, l, e, at, want)
	}
}

func wantNoBytes(t testing.TB, b []byte, place int) {
	t.Helper()
	if l, e, at := trace.Decode(b); len(l) != 0 || e != api.ErrTraceForm || at != place {
		t.Errorf("Decode(%x) = %v, %d, %d, want ErrTraceForm, %d", b, l, e, at, place)
	}
}

func wantText(t testing.TB, want string, l ...api.Obs) {
	t.Helper()
	if s, e := trace.Text(l...); s != want || e != api.OK {
		t.Errorf("Text(%v) = %q, %d, want %q", l, s, e, want)
	}
}

func wantParse(t testing.TB, s string, want ...api.Obs) {
	t.Helper()
	if l, e, line := trace.Parse(s); !slices.Equal(l, want) || e != api.OK || line != 0 {
		t.Errorf("Parse(%q) = %v, %d, %d, want %v", s, l, e, line, want)
	}
}

func wantNoText(t testing.TB, s string, at int) {
	t.Helper()
	if l, e, line := trace.Parse(s); len(l) != 0 || e != api.ErrTraceText || line != at {
		t.Errorf("Parse(%q) = %v, %d, %d, want ErrTraceText, %d", s, l, e, line, at)
	}
}

// TestExamples: those of the chapter.
func TestExamples(t *testing.T) {
	load := api.Obs{Tick: 37, Cell: 1, Kind: api.ObsLoad, PC: 16, A: 4096, B: 42}
	wantText(t, "37 1 load 00000010 00001000 0000002a\n", load)
	wantText(t, "5 2 clock 00000000 0000000100000005\n", api.Obs{Tick: 5, Cell: 2, Kind: api.ObsClock, A: 5, B: 1})
	wantEncode(t, summed([]byte{0x43, 0x4c, 0x54, 0x52, 0, 0, 0, 0}))
	wantNoBytes(t, []byte("CLTX"), 3)
	wantNoBytes(t, []byte("CLTR"), 4)
	wantNoText(t, "7 1 irq 00000000 32", 1)
}

// TestBytesByHand: each number of a row at its place, the lowest byte first.
func TestBytesByHand(t *testing.T) {
	o := api.Obs{Tick: 0x0123456789abcdef, Cell: 8, Kind: api.ObsCall, PC: 0x11223344, A: 0x55667788, B: 0x99aabbcc}
	want := []byte{
		'C', 'L', 'T', 'R', 1, 0, 0, 0,
		0xef, 0xcd, 0xab, 0x89, 0x67, 0x45, 0x23, 0x01, 8, 2,
		0x44, 0x33, 0x22, 0x11, 0x88, 0x77, 0x66, 0x55, 0xcc, 0xbb, 0xaa, 0x99,
	}
	wantEncode(t, summed(want), o)
	wantDecode(t, summed(want), o)
}

// TestTextByHand: a line of each kind.
func TestTextByHand(t *testing.T) {
	at := func(kind api.ObsKind, a, b uint32) api.Obs {
		return api.Obs{Tick: 120, Cell: 3, Kind: kind, PC: 0xabcdef, A: a, B: b}
	}
	for want, o := range map[string]api.Obs{
		"120 3 load 00abcdef 000000f0 fedcba98":   at(api.ObsLoad, 0xf0, 0xfedcba98),
		"120 3 call 00abcdef 0000000b ffffffff":   at(api.ObsCall, 11, most),
		"120 3 fault 00abcdef align 00000003":     at(api.ObsFault, 1, 3),
		"120 3 fault 00abcdef outside 00000003":   at(api.ObsFault, 2, 3),
		"120 3 fault 00abcdef unmapped ffffffff":  at(api.ObsFault, 3, most),
		"120 3 fault 00abcdef malformed 00000003": at(api.ObsFault, 4, 3),
		"120 3 fault 00abcdef denied 00000000":    at(api.ObsFault, 5, 0),
		"120 3 fault 00abcdef illegal 00000003":   at(api.ObsFault, 6, 3),
		"120 3 irq 00abcdef 0":                    at(api.ObsIrq, 0, 0),
		"120 3 irq 00abcdef 31":                   at(api.ObsIrq, 31, 0),
		"120 3 clock 00abcdef 7fffffff00000000":   at(api.ObsClock, 0, 1<<31-1),
		"120 3 clock 00abcdef 00000000ffffffff":   at(api.ObsClock, most, 0),
		"120 3 halt 00abcdef":                     at(api.ObsHalt, 0, 0),
		"120 3 say 00abcdef 00000a0b":             at(api.ObsSay, 0xa0b, 0),
		"9223372036854775807 8 halt ffffffff":     {Tick: api.MaxTick, Cell: 8, Kind: api.ObsHalt, PC: most},
		"0 1 say 00000000 00000000":               {Cell: 1, Kind: api.ObsSay},
	} {
		wantText(t, want+"\n", o)
		wantParse(t, want, o)
	}
}

func TestErrorNumbers(t *testing.T) {
	for want, e := range map[api.Errno]api.Errno{220: api.ErrTraceArg, 221: api.ErrTraceForm, 222: api.ErrTraceText} {
		if e != want {
			t.Errorf("an error has the number %d, want %d", e, want)
		}
	}
}
