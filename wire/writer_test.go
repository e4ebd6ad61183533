package wire_test

import (
	"bytes"
	"math"
	"strings"
	"testing"

	"cloister/api"
	"cloister/wire"
)

const mostLimit = 67108864

func newWriter(t *testing.T, limit int) *wire.Writer {
	t.Helper()
	w, e := wire.NewWriter(limit)
	if w == nil || e != api.OK {
		t.Fatalf("NewWriter(%d) = %v, %d", limit, w, e)
	}
	return w
}

// wantDone asks twice, since asking must change nothing.
func wantDone(t *testing.T, w *wire.Writer, want []byte, e api.Errno) {
	t.Helper()
	for range 2 {
		if b, got := w.Done(); !bytes.Equal(b, want) || got != e {
			t.Errorf("Done = % x, %d, want % x, %d", b, got, want, e)
		}
	}
}

// wantWrong: a writer that is wrong stays so, by the same error and with as
// many bytes, whatever is asked.
func wantWrong(t *testing.T, w *wire.Writer, e api.Errno, length int) {
	t.Helper()
	for i, ask := range []func(){
		func() {}, func() { w.Byte(1) }, func() { w.Half(1) }, func() { w.Word(1) }, func() { w.Long(1) },
		func() { w.Raw(nil) }, func() { w.Raw([]byte{1}) }, func() { w.Text("") },
		func() { w.Text(strings.Repeat("x", 65536)) }, func() { w.Pad(1) }, func() { w.Pad(4096) }, func() { w.Pad(0) },
		func() { w.Shut(0) }, func() { w.Shut(-1) }, func() { w.Word(1 << 31) },
		func() {
			if n := w.Open(); n != 0 {
				t.Errorf("Open of a wrong writer = %d, want 0", n)
			}
		},
	} {
		ask()
		b, got := w.Done()
		if len(b) != 0 || got != e || w.Len() != length {
			t.Fatalf("behind call %d: Done = % x, %d, Len %d; want nothing, %d, Len %d", i, b, got, w.Len(), e, length)
		}
	}
}

func TestWriterLimits(t *testing.T) {
	for _, limit := range []int{0, 1, mostLimit - 1, mostLimit} {
		w := newWriter(t, limit)
		if w.Len() != 0 {
			t.Errorf("Len of a new writer = %d", w.Len())
		}
		wantDone(t, w, nil, api.OK)
	}
	for _, limit := range []int{-1, mostLimit + 1, math.MinInt, math.MaxInt, math.MinInt32, math.MaxInt32} {
		if w, e := wire.NewWriter(limit); w != nil || e != api.ErrWireArg {
			t.Errorf("NewWriter(%d) = %v, %d, want nil, ErrWireArg", limit, w, e)
		}
	}
}

func TestWriterWritesTheLowestByteFirst(t *testing.T) {
	w := newWriter(t, 100)
	w.Byte(0xf1)
	w.Half(0xf302)
	w.Word(0xf7060504)
	w.Long(0xff0e0d0c0b0a0908)
	want := []byte{0xf1, 2, 0xf3, 4, 5, 6, 0xf7, 8, 9, 10, 11, 12, 13, 14, 0xff}
	if w.Len() != len(want) {
		t.Errorf("Len = %d, want %d", w.Len(), len(want))
	}
	wantDone(t, w, want, api.OK)
}

func TestWriterExample(t *testing.T) {
	w := newWriter(t, 12)
	w.Half(258)
	place := w.Open()
	if place != 2 {
		t.Errorf("Open = %d, want 2", place)
	}
	w.Byte(7)
	w.Pad(4)
	w.Shut(place)
	w.Text("ab")
	wantDone(t, w, []byte{2, 1, 2, 0, 0, 0, 7, 0, 2, 0, 'a', 'b'}, api.OK)
}

func TestWriterOfLimitThree(t *testing.T) {
	w := newWriter(t, 3)
	w.Word(1)
	wantWrong(t, w, api.ErrWireFull, 0)
}

// TestWriterAtItsLimit has each call once with just the room that it needs,
// and once with a byte less.
func TestWriterAtItsLimit(t *testing.T) {
	long := strings.Repeat("x", 65535)
	for _, c := range []struct {
		name  string
		write func(w *wire.Writer)
		want  string
	}{
		{"Byte", func(w *wire.Writer) { w.Byte(255) }, "\xff"},
		{"Half", func(w *wire.Writer) { w.Half(1) }, "\x01\x00"},
		{"Word", func(w *wire.Writer) { w.Word(1 << 31) }, "\x00\x00\x00\x80"},
		{"Long", func(w *wire.Writer) { w.Long(1 << 63) }, "\x00\x00\x00\x00\x00\x00\x00\x80"},
		{"Raw", func(w *wire.Writer) { w.Raw([]byte("abc")) }, "abc"},
		{"Text of nothing", func(w *wire.Writer) { w.Text("") }, "\x00\x00"},
		{"Text", func(w *wire.Writer) { w.Text("ü") }, "\x02\x00\xc3\xbc"},
		{"Text of the greatest length", func(w *wire.Writer) { w.Text(long) }, "\xff\xff" + long},
		{"Pad", func(w *wire.Writer) { w.Pad(8) }, "\x00\x00\x00\x00\x00"},
		{"Pad to the most", func(w *wire.Writer) { w.Pad(4096) }, strings.Repeat("\x00", 4093)},
		{"Open", func(w *wire.Writer) { w.Shut(w.Open()) }, "\x00\x00\x00\x00"},
	} {
		ahead := "pre"
		w := newWriter(t, len(ahead)+len(c.want))
		w.Raw([]byte(ahead))
		c.write(w)
		if w.Len() != len(ahead)+len(c.want) {
			t.Errorf("%s: Len = %d, want %d", c.name, w.Len(), len(ahead)+len(c.want))
		}
		wantDone(t, w, []byte(ahead+c.want), api.OK)
		w.Byte(0)
		wantWrong(t, w, api.ErrWireFull, len(ahead)+len(c.want))

		w = newWriter(t, len(ahead)+len(c.want)-1)
		w.Raw([]byte(ahead))
		c.write(w)
		wantWrong(t, w, api.ErrWireFull, len(ahead))
	}
}

func TestWriterWithoutRoomWritesNothing(t *testing.T) {
	w := newWriter(t, 0)
	w.Raw(nil)
	w.Raw([]byte{})
	w.Pad(1)
	w.Pad(4096)
	wantDone(t, w, nil, api.OK)
	if n := w.Open(); n != 0 {
		t.Errorf("Open of a writer without room = %d", n)
	}
	wantWrong(t, w, api.ErrWireFull, 0)

	w = newWriter(t, 5)
	w.Half(1)
	if n := w.Open(); n != 0 {
		t.Errorf("Open that passes the limit = %d, want 0", n)
	}
	wantWrong(t, w, api.ErrWireFull, 2)
}

func TestWriterAtTheGreatestLimit(t *testing.T) {
	w := newWriter(t, mostLimit)
	place := w.Open()
	w.Raw(make([]byte, mostLimit-4))
	w.Shut(place)
	b, e := w.Done()
	if len(b) != mostLimit || e != api.OK || !bytes.Equal(b[:4], []byte{0xfc, 0xff, 0xff, 3}) {
		t.Errorf("Done = %d bytes, %d", len(b), e)
	}
	w.Byte(1)
	wantWrong(t, w, api.ErrWireFull, mostLimit)
}

func TestWriterTextTooLong(t *testing.T) {
	for _, limit := range []int{0, 10, 65538, 200000} {
		w := newWriter(t, limit)
		w.Text(strings.Repeat("x", 65536))
		wantWrong(t, w, api.ErrWireLong, 0)
	}
}

func TestWriterPad(t *testing.T) {
	for _, to := range []int{1, 2, 3, 4, 7, 8, 4095, 4096} {
		for _, ahead := range []int{0, 1, 2, 3, 7, 8, 4095, 4096, 4097} {
			w := newWriter(t, 3*4096)
			w.Raw(bytes.Repeat([]byte{9}, ahead))
			w.Pad(to)
			want := ahead
			for want%to != 0 {
				want++
			}
			b, e := w.Done()
			if len(b) != want || e != api.OK || w.Len() != want || len(bytes.Trim(b[ahead:], "\x00")) != 0 {
				t.Errorf("Pad(%d) behind %d bytes: %d bytes, %d, want %d bytes", to, ahead, len(b), e, want)
			}
			w.Pad(to)
			if w.Len() != want {
				t.Errorf("Pad(%d) twice behind %d bytes: Len %d, want %d", to, ahead, w.Len(), want)
			}
		}
	}
	for _, to := range []int{0, -1, -4, 4097, math.MinInt, math.MaxInt} {
		w := newWriter(t, 2)
		w.Half(1)
		w.Pad(to)
		wantWrong(t, w, api.ErrWireArg, 2)
	}
}

func TestWriterShutInAnyOrder(t *testing.T) {
	for _, order := range [][3]int{{0, 1, 2}, {0, 2, 1}, {1, 0, 2}, {1, 2, 0}, {2, 0, 1}, {2, 1, 0}} {
		w := newWriter(t, 15)
		places := [3]int{}
		for i := range places {
			places[i] = w.Open()
			if places[i] != 5*i {
				t.Errorf("Open = %d, want %d", places[i], 5*i)
			}
			w.Byte(9)
		}
		for _, i := range order {
			wantDone(t, w, nil, api.ErrWireArg)
			w.Shut(places[i])
		}
		wantDone(t, w, []byte{11, 0, 0, 0, 9, 6, 0, 0, 0, 9, 1, 0, 0, 0, 9}, api.OK)
	}
}

func TestWriterShutCountsWhatIsWrittenUpToThen(t *testing.T) {
	w := newWriter(t, 300000)
	outer := w.Open()
	inner := w.Open()
	w.Shut(inner)
	w.Raw(make([]byte, 0x10203))
	w.Shut(outer)
	w.Byte(7)
	b, e := w.Done()
	if e != api.OK || !bytes.Equal(b[:8], []byte{7, 2, 1, 0, 0, 0, 0, 0}) {
		t.Errorf("Done = % x .., %d", b[:8], e)
	}
}

func TestWriterShutWrongly(t *testing.T) {
	for _, c := range []struct {
		name  string
		place int
		ahead func(w *wire.Writer)
		len   int
	}{
		{"nothing is written", 0, func(w *wire.Writer) {}, 0},
		{"a Word that was not opened", 0, func(w *wire.Writer) { w.Word(0) }, 4},
		{"shut already", 0, func(w *wire.Writer) { w.Shut(w.Open()) }, 4},
		{"shut already, another one is open", 0, func(w *wire.Writer) { w.Shut(w.Open()); w.Open() }, 8},
		{"within an opened Word", 1, func(w *wire.Writer) { w.Open() }, 4},
		{"behind an opened Word", 4, func(w *wire.Writer) { w.Open(); w.Word(0) }, 8},
		{"ahead of all", -1, func(w *wire.Writer) { w.Open() }, 4},
		{"behind all", 4, func(w *wire.Writer) { w.Open() }, 4},
		{"the least number", math.MinInt, func(w *wire.Writer) { w.Open() }, 4},
		{"the greatest number", math.MaxInt, func(w *wire.Writer) { w.Open() }, 4},
	} {
		w := newWriter(t, 8)
		c.ahead(w)
		w.Shut(c.place)
		t.Run(c.name, func(t *testing.T) { wantWrong(t, w, api.ErrWireArg, c.len) })
	}
}

func TestWriterFirstErrorStays(t *testing.T) {
	w := newWriter(t, 1)
	w.Pad(0)
	w.Word(1)
	wantWrong(t, w, api.ErrWireArg, 0)
	w = newWriter(t, 8)
	place := w.Open()
	w.Long(1)
	w.Shut(place)
	wantWrong(t, w, api.ErrWireFull, 4)
}

func TestWriterGoesOnBehindDone(t *testing.T) {
	w := newWriter(t, 10)
	w.Byte(1)
	wantDone(t, w, []byte{1}, api.OK)
	place := w.Open()
	wantDone(t, w, nil, api.ErrWireArg)
	w.Byte(2)
	w.Shut(place)
	wantDone(t, w, []byte{1, 1, 0, 0, 0, 2}, api.OK)
}

func TestWriterSharesNoMemory(t *testing.T) {
	w := newWriter(t, 100)
	in := []byte{1, 2, 3, 4, 5}
	w.Raw(in[:3])
	in[0] = 99
	w.Half(0x0706)
	if !bytes.Equal(in, []byte{99, 2, 3, 4, 5}) {
		t.Errorf("what was handed in is changed: %v", in)
	}
	want := []byte{1, 2, 3, 6, 7}
	one, _ := w.Done()
	two, _ := w.Done()
	spoil(one)
	if !bytes.Equal(two, want) {
		t.Errorf("two answers share memory: %v", two)
	}
	wantDone(t, w, want, api.OK)
	spoil(two)
	w.Byte(8)
	wantDone(t, w, append(want, 8), api.OK)
	one, _ = w.Done()
	w.Long(math.MaxUint64)
	if rest := one[len(one):cap(one)]; bytes.Contains(rest, []byte{255}) {
		t.Errorf("the writer writes into the spare room of its answer: %v", rest)
	}
}

func TestWritersKnowNothingOfOneAnother(t *testing.T) {
	a, b := newWriter(t, 8), newWriter(t, 8)
	place := a.Open()
	b.Word(5)
	b.Shut(place)
	a.Shut(place)
	wantDone(t, a, []byte{0, 0, 0, 0}, api.OK)
	wantWrong(t, b, api.ErrWireArg, 4)
}

// spoil writes all over a list, its spare room too.
func spoil(b []byte) {
	b = b[:cap(b)]
	for i := range b {
		b[i] = 0xee
	}
}
