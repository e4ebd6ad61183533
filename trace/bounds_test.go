package trace_test

import (
	"bytes"
	"hash/crc32"
	"math"
	"slices"
	"testing"

	"cloister/api"
	"cloister/trace"
)

// mayBe is the chapter's table.
func mayBe(o api.Obs) bool {
	if o.Cell < 1 || o.Cell > 8 || o.Tick > 9223372036854775807 {
		return false
	}
	switch o.Kind {
	case 1, 2:
		return true
	case 3:
		return o.A >= 1 && o.A <= 6
	case 4:
		return o.A <= 31 && o.B == 0
	case 5:
		return o.B <= 0x7fffffff
	case 6:
		return o.A == 0 && o.B == 0
	case 7:
		return o.B == 0
	}
	return false
}

// atBounds is all observations whose numbers are at bounds, and beside them.
func atBounds() []api.Obs {
	var l []api.Obs
	words := []uint32{0, 1, 2, 5, 6, 7, 8, 30, 31, 32, 33, 255, 256, 257, 1<<31 - 1, 1 << 31, most - 1, most}
	for _, tick := range []uint64{0, 1, 1 << 32, api.MaxTick - 1, api.MaxTick, api.MaxTick + 1, math.MaxUint64} {
		for _, cell := range []int{math.MinInt, -256, -255, -1, 0, 1, 2, 7, 8, 9, 256, 257, 1<<32 + 1, math.MaxInt} {
			for _, kind := range []api.ObsKind{math.MinInt, -1, 0, 1, 2, 3, 4, 5, 6, 7, 8, 256, 257, 263, 1<<32 + 6, math.MaxInt} {
				o := api.Obs{Tick: tick, Cell: cell, Kind: kind, PC: 4096}
				if cell != 1 && cell != 8 || tick > 1 && tick != api.MaxTick {
					l = append(l, o)
					o.A = 1
					l = append(l, o)
					continue
				}
				for _, a := range words {
					for _, b := range words {
						o.A, o.B = a, b
						l = append(l, o)
					}
				}
			}
		}
	}
	return l
}

// TestWhatMayBe: each call takes an observation just if it may be.
func TestWhatMayBe(t *testing.T) {
	so := 0
	for _, o := range atBounds() {
		want := mayBe(o)
		b, e := trace.Encode(o)
		s, f := trace.Text(o)
		if !want {
			if len(b) != 0 || e != api.ErrTraceArg || s != "" || f != api.ErrTraceArg {
				t.Fatalf("%+v: Encode = %x, %d, Text = %q, %d", o, b, e, s, f)
			}
			if d := trace.Digest(o.Cell, o); d != 0 {
				t.Fatalf("%+v: Digest = %x", o, d)
			}
			continue
		}
		so++
		if !bytes.Equal(b, bytesOf(o)) || e != api.OK || s != lineOf(o) || f != api.OK {
			t.Fatalf("%+v: Encode = %x, %d, Text = %q, %d", o, b, e, s, f)
		}
		if d := trace.Digest(o.Cell, o); d != crc32.ChecksumIEEE(rowsOf(o)) {
			t.Fatalf("%+v: Digest = %x", o, d)
		}
		wantParse(t, s, o)
	}
	if so < 1000 {
		t.Errorf("%d observations may be: the test asks too little", so)
	}
}

// TestRowsThatMayNotBe: of bytes that are in order but for these.
func TestRowsThatMayNotBe(t *testing.T) {
	good := api.Obs{Cell: 1, Kind: api.ObsHalt}
	other := api.Obs{Cell: 4, Kind: api.ObsIrq, A: 32}
	for _, o := range atBounds() {
		if o.Cell != int(byte(o.Cell)) || o.Kind != api.ObsKind(byte(o.Kind)) {
			continue // a row has no room for that
		}
		if mayBe(o) {
			wantDecode(t, bytesOf(good, o, good), good, o, good)
			continue
		}
		wantNoBytes(t, bytesOf(o), head)
		wantNoBytes(t, bytesOf(good, o, other), head+row)
		wantNoBytes(t, bytesOf(good, good, good, o), head+3*row)
	}
}

// TestOneThatMayNotBe: wherever it stands, nothing is written.
func TestOneThatMayNotBe(t *testing.T) {
	good := []api.Obs{{Cell: 1, Kind: api.ObsHalt}, {Cell: 2, Kind: api.ObsSay, A: 5}, {Cell: 8, Kind: api.ObsClock}}
	for i := range len(good) + 1 {
		l := slices.Insert(slices.Clone(good), i, api.Obs{Cell: 3, Kind: api.ObsSay, B: 1})
		if b, e := trace.Encode(l...); len(b) != 0 || e != api.ErrTraceArg {
			t.Errorf("Encode with one at %d = %x, %d", i, b, e)
		}
		if s, e := trace.Text(l...); s != "" || e != api.ErrTraceArg {
			t.Errorf("Text with one at %d = %q, %d", i, s, e)
		}
	}
}

// many is so many observations that may be, of cells 1 and 2.
func many(n int) []api.Obs {
	l := make([]api.Obs, n)
	for i := range l {
		l[i] = api.Obs{Tick: uint64(i), Cell: 1 + i%2, Kind: api.ObsLoad, A: uint32(i)}
	}
	return l
}

// TestManyRows: as bytes there is a bound.
func TestManyRows(t *testing.T) {
	l := many(1000001)
	if b, e := trace.Encode(l...); len(b) != 0 || e != api.ErrTraceArg {
		t.Errorf("Encode of %d = %d bytes, %d", len(l), len(b), e)
	}
	b, e := trace.Encode(l[:1000000]...)
	if e != api.OK || !bytes.Equal(b, bytesOf(l[:1000000]...)) {
		t.Errorf("Encode of 1000000 = %d bytes, %d", len(b), e)
	}
	if m, e, at := trace.Decode(b); !slices.Equal(m, l[:1000000]) || e != api.OK || at != 0 {
		t.Errorf("Decode of 1000000 = %d, %d, %d", len(m), e, at)
	}
	if m, e, at := trace.Decode(bytesOf(l...)); len(m) != 0 || e != api.ErrTraceForm || at != 4 {
		t.Errorf("Decode of %d = %d, %d, %d", len(l), len(m), e, at)
	}
}

// TestManyLines: as a text, and for a digest, there is none.
func TestManyLines(t *testing.T) {
	l := many(1000001)
	s, e := trace.Text(l...)
	if e != api.OK {
		t.Fatalf("Text of %d = %d", len(l), e)
	}
	if m, e, line := trace.Parse(s); !slices.Equal(m, l) || e != api.OK || line != 0 {
		t.Errorf("Parse of %d lines = %d, %d, %d", len(l), len(m), e, line)
	}
	l = many(3060000) // a writer of layer 1 has room for fewer
	for i := range l {
		l[i].Cell = 5
	}
	if d := trace.Digest(5, l...); d != crc32.ChecksumIEEE(rowsOf(l...)) {
		t.Errorf("Digest of %d = %x", len(l), d)
	}
}
