package wire_test

import (
	"bytes"
	"math"
	"strings"
	"testing"

	"cloister/api"
	"cloister/wire"
)

func wantReader(t *testing.T, r *wire.Reader, e api.Errno, where, at, left int) {
	t.Helper()
	if got, place := r.Err(); got != e || place != where || r.At() != at || r.Left() != left {
		t.Errorf("%d at %d, At %d, Left %d; want %d at %d, At %d, Left %d", got, place, r.At(), r.Left(), e, where, at, left)
	}
}

// wantStuck: a reader that is wrong reads nothing, moves no more, and stays
// wrong by the same error, whatever is asked.
func wantStuck(t *testing.T, r *wire.Reader, e api.Errno, where, at int) {
	t.Helper()
	wantReader(t, r, e, where, at, 0)
	for i, ask := range []func() bool{
		func() bool { return r.Byte() == 0 }, func() bool { return r.Half() == 0 },
		func() bool { return r.Word() == 0 }, func() bool { return r.Long() == 0 },
		func() bool { return len(r.Raw(0)) == 0 }, func() bool { return len(r.Raw(1)) == 0 },
		func() bool { return len(r.Raw(-1)) == 0 }, func() bool { return len(r.Raw(math.MaxInt)) == 0 },
		func() bool { return r.Text(0) == "" }, func() bool { return r.Text(65535) == "" }, func() bool { return r.Text(-1) == "" },
		func() bool { r.Pad(1); return true }, func() bool { r.Pad(4096); return true }, func() bool { r.Pad(0); return true },
		func() bool { r.End(); return true }, func() bool { r.Fail(77); return true }, func() bool { r.Fail(api.OK); return true },
	} {
		if !ask() {
			t.Errorf("call %d of a wrong reader answers something", i)
		}
		wantReader(t, r, e, where, at, 0)
	}
	part := r.Part()
	if part == nil {
		t.Fatal("Part of a wrong reader is nil")
	}
	wantReader(t, part, e, 0, 0, 0)
	if part.Byte() != 0 {
		t.Error("the part of a wrong reader has a byte")
	}
	wantReader(t, part, e, 0, 0, 0)
	wantReader(t, r, e, where, at, 0)
}

func TestReaderExample(t *testing.T) {
	r := wire.NewReader([]byte{2, 1, 2, 0, 0, 0, 7, 0, 2, 0, 'a', 'b'})
	if n := r.Half(); n != 258 {
		t.Errorf("Half = %d, want 258", n)
	}
	part := r.Part()
	if b := part.Raw(2); !bytes.Equal(b, []byte{7, 0}) {
		t.Errorf("the part: % x, want 07 00", b)
	}
	part.End()
	wantReader(t, part, api.OK, 0, 2, 0)
	wantReader(t, r, api.OK, 0, 8, 4)
	if s := r.Text(1); s != "" {
		t.Errorf("Text(1) = %q", s)
	}
	wantStuck(t, r, api.ErrWireLong, 8, 8)
}

func TestReaderReadsTheLowestByteFirst(t *testing.T) {
	r := wire.NewReader([]byte{0xf1, 2, 0xf3, 4, 5, 6, 0xf7, 8, 9, 10, 11, 12, 13, 14, 0xff})
	wantReader(t, r, api.OK, 0, 0, 15)
	if n := r.Byte(); n != 0xf1 {
		t.Errorf("Byte = %x", n)
	}
	wantReader(t, r, api.OK, 0, 1, 14)
	if n := r.Half(); n != 0xf302 {
		t.Errorf("Half = %x", n)
	}
	wantReader(t, r, api.OK, 0, 3, 12)
	if n := r.Word(); n != 0xf7060504 {
		t.Errorf("Word = %x", n)
	}
	wantReader(t, r, api.OK, 0, 7, 8)
	if n := r.Long(); n != 0xff0e0d0c0b0a0908 {
		t.Errorf("Long = %x", n)
	}
	r.End()
	wantReader(t, r, api.OK, 0, 15, 0)
}

// TestReaderAtItsEnd has each call once with just the bytes that it needs, and
// then with each lesser number of them: all of it must be there.
func TestReaderAtItsEnd(t *testing.T) {
	long := "\xff\xff" + strings.Repeat("y", 65535)
	for _, c := range []struct {
		name string
		need string
		read func(r *wire.Reader) bool
	}{
		{"Byte", "\x80", func(r *wire.Reader) bool { return r.Byte() == 0x80 }},
		{"Half", "\x01\x80", func(r *wire.Reader) bool { return r.Half() == 0x8001 }},
		{"Word", "\x01\x02\x03\x80", func(r *wire.Reader) bool { return r.Word() == 0x80030201 }},
		{"Long", "\x01\x02\x03\x04\x05\x06\x07\x80", func(r *wire.Reader) bool { return r.Long() == 0x8007060504030201 }},
		{"Raw", "abc", func(r *wire.Reader) bool { return string(r.Raw(3)) == "abc" }},
		{"Text of nothing", "\x00\x00", func(r *wire.Reader) bool { return r.Text(0) == "" }},
		{"Text", "\x03\x00a\xffc", func(r *wire.Reader) bool { return r.Text(3) == "a\xffc" }},
		{"Text, more would do", "\x01\x00a", func(r *wire.Reader) bool { return r.Text(math.MaxInt) == "a" }},
		{"the longest Text", long, func(r *wire.Reader) bool { return r.Text(65535) == long[2:] }},
		{"Pad", "\x00\x00\x00\x00\x00", func(r *wire.Reader) bool { r.Pad(8); return true }},
		{"Part of nothing", "\x00\x00\x00\x00", func(r *wire.Reader) bool { return r.Part().Left() == 0 }},
		{"Part", "\x03\x00\x00\x00abc", func(r *wire.Reader) bool { return string(r.Part().Raw(3)) == "abc" }},
	} {
		r := wire.NewReader([]byte("pre" + c.need))
		r.Raw(3)
		if !c.read(r) {
			t.Errorf("%s: answers something else", c.name)
		}
		wantReader(t, r, api.OK, 0, 3+len(c.need), 0)
		r.End()
		r.Byte()
		wantStuck(t, r, api.ErrWireShort, 3+len(c.need), 3+len(c.need))
		for n := range min(len(c.need), 8) {
			r := wire.NewReader([]byte("pre" + c.need[:len(c.need)-1-n]))
			r.Raw(3)
			c.read(r)
			t.Run(c.name, func(t *testing.T) { wantStuck(t, r, api.ErrWireShort, 3, 3) })
		}
	}
}

func TestReaderRaw(t *testing.T) {
	r := wire.NewReader([]byte("abc"))
	if b := r.Raw(0); len(b) != 0 {
		t.Errorf("Raw(0) = %q", b)
	}
	wantReader(t, r, api.OK, 0, 0, 3)
	for _, n := range []int{-1, math.MinInt, math.MinInt32} {
		r := wire.NewReader([]byte("abc"))
		r.Byte()
		if b := r.Raw(n); len(b) != 0 {
			t.Errorf("Raw(%d) = %q", n, b)
		}
		wantStuck(t, r, api.ErrWireArg, 1, 1)
	}
	for _, n := range []int{3, math.MaxInt, math.MaxInt32} {
		r := wire.NewReader([]byte("abc"))
		r.Byte()
		if b := r.Raw(n); len(b) != 0 {
			t.Errorf("Raw(%d) = %q", n, b)
		}
		wantStuck(t, r, api.ErrWireShort, 1, 1)
	}
}

func TestReaderText(t *testing.T) {
	for _, c := range []struct {
		text string
		most int
		e    api.Errno
	}{
		{"", -1, api.ErrWireArg},
		{"\x01\x00a", -1, api.ErrWireArg},
		{"\x01\x00a", math.MinInt, api.ErrWireArg},
		{"\x01\x00a", 0, api.ErrWireLong},
		{"\x03\x00abc", 2, api.ErrWireLong},
		{"\x03\x00", 2, api.ErrWireLong},
		{"\xff\xff", 65534, api.ErrWireLong},
		{"\xff\xff", 65535, api.ErrWireShort},
		{"\x03", 2, api.ErrWireShort},
		{"\x03\x00ab", 3, api.ErrWireShort},
	} {
		r := wire.NewReader([]byte("x" + c.text))
		r.Byte()
		if s := r.Text(c.most); s != "" {
			t.Errorf("%q: Text(%d) = %q", c.text, c.most, s)
		}
		wantStuck(t, r, c.e, 1, 1)
	}
}

func TestReaderPad(t *testing.T) {
	zeros := make([]byte, 2*4096)
	for _, to := range []int{1, 2, 3, 4, 8, 4095, 4096} {
		for _, ahead := range []int{0, 1, 3, 4, 7, 4095, 4096} {
			r := wire.NewReader(zeros)
			r.Raw(ahead)
			r.Pad(to)
			want := ahead
			for want%to != 0 {
				want++
			}
			wantReader(t, r, api.OK, 0, want, len(zeros)-want)
			r.Pad(to)
			wantReader(t, r, api.OK, 0, want, len(zeros)-want)
		}
	}
	for _, to := range []int{0, -1, -4, 4097, math.MinInt, math.MaxInt} {
		r := wire.NewReader(zeros)
		r.Byte()
		r.Pad(to)
		wantStuck(t, r, api.ErrWireArg, 1, 1)
	}
	for _, c := range []struct {
		text  string
		e     api.Errno
		where int
	}{
		{"x\x01\x00\x00", api.ErrWireZero, 1},
		{"x\x00\x00\x01", api.ErrWireZero, 3},
		{"x\x00\xff\x01y", api.ErrWireZero, 2},
		{"x\x01\x00", api.ErrWireShort, 1},
		{"x", api.ErrWireShort, 1},
	} {
		r := wire.NewReader([]byte(c.text))
		r.Byte()
		r.Pad(4)
		wantStuck(t, r, c.e, c.where, 1)
	}
}

func TestReaderPart(t *testing.T) {
	r := wire.NewReader([]byte("x\x06\x00\x00\x00\x01\x00\x00\x00abz"))
	r.Byte()
	outer := r.Part()
	wantReader(t, r, api.OK, 0, 11, 1)
	wantReader(t, outer, api.OK, 0, 0, 6)
	inner := outer.Part()
	wantReader(t, outer, api.OK, 0, 5, 1)
	if n := inner.Byte(); n != 'a' {
		t.Errorf("Byte of the inner part = %c", n)
	}
	inner.Byte()
	wantStuck(t, inner, api.ErrWireShort, 1, 1)
	wantReader(t, outer, api.OK, 0, 5, 1)
	outer.Fail(99)
	wantStuck(t, outer, 99, 5, 5)
	wantReader(t, r, api.OK, 0, 11, 1)
	if n := r.Byte(); n != 'z' {
		t.Errorf("Byte behind the part = %c", n)
	}
	for _, text := range []string{"x", "x\x00\x00\x00", "x\x02\x00\x00\x00a", "x\xff\xff\xff\xff", "x\xff\xff\xff\xffabc", "x\x00\x00\x00\x80abc", "x\xfc\xff\xff\xffa"} {
		r := wire.NewReader([]byte(text))
		r.Byte()
		wantReader(t, r.Part(), api.ErrWireShort, 0, 0, 0)
		wantStuck(t, r, api.ErrWireShort, 1, 1)
	}
}

func TestReaderPadCountsFromThePartsBeginning(t *testing.T) {
	r := wire.NewReader([]byte("x\x05\x00\x00\x00a\x00\x00\x00b"))
	r.Byte()
	part := r.Part()
	part.Byte()
	part.Pad(4)
	wantReader(t, part, api.OK, 0, 4, 1)
}

func TestReaderEnd(t *testing.T) {
	r := wire.NewReader(nil)
	r.End()
	wantReader(t, r, api.OK, 0, 0, 0)
	r = wire.NewReader([]byte("ab"))
	r.Byte()
	r.End()
	wantStuck(t, r, api.ErrWireMore, 1, 1)
}

func TestReaderFail(t *testing.T) {
	r := wire.NewReader([]byte("ab"))
	r.Byte()
	r.Fail(api.OK)
	wantReader(t, r, api.OK, 0, 1, 1)
	for _, e := range []api.Errno{1, 7, -1, api.ErrWireMore, math.MaxInt, math.MinInt} {
		r := wire.NewReader([]byte("ab"))
		r.Byte()
		r.Fail(e)
		wantStuck(t, r, e, 1, 1)
	}
}

func TestReaderSharesNoMemory(t *testing.T) {
	in := []byte{2, 0, 0, 0, 5, 6, 7, 8, 9, 10}
	kept := bytes.Clone(in)
	r := wire.NewReader(in[:8])
	wantReader(t, r, api.OK, 0, 0, 8)
	spoil(in)
	part := r.Part()
	one := part.Raw(1)
	spoil(one)
	if n := part.Byte(); n != 6 {
		t.Errorf("Byte behind a list that was written into = %d, want 6", n)
	}
	two := r.Raw(1)
	spoil(two)
	if n := r.Byte(); n != 8 {
		t.Errorf("Byte behind a list that was written into = %d, want 8", n)
	}
	in = bytes.Clone(kept)
	r = wire.NewReader(in[:8])
	r.Part().Raw(2)
	r.Pad(4)
	r.Raw(2)
	r.Text(9)
	if !bytes.Equal(in, kept) {
		t.Errorf("what was handed in is changed: %v", in)
	}
}
