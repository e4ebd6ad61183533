package wire

import (
	"bytes"
	"math"

	"cloister/api"
)

// Reader reads bytes; what has gone wrong stays wrong.
type Reader struct {
	data  []byte // never written into: parts of a reader share it
	at    int
	err   api.Errno
	where int
}

// NewReader is one of a copy of these bytes.
func NewReader(b []byte) *Reader {
	return &Reader{data: bytes.Clone(b)}
}

// Fail has it go wrong at its place.
func (r *Reader) Fail(e api.Errno) { r.failAt(e, r.at) }

// failAt has it go wrong by what was found at a place; only the first error counts.
func (r *Reader) failAt(e api.Errno, place int) {
	if r.err == api.OK && e != api.OK {
		r.err, r.where = e, place
	}
}

// take moves behind the next n bytes, and gives them: all that reads goes
// through it. They are none if the reader is wrong, or comes to be so by it.
// (A count that was read has up to 32 bits, which an int may not hold.)
func (r *Reader) take(n uint64) []byte {
	if n > uint64(len(r.data)-r.at) {
		r.Fail(api.ErrWireShort)
	}
	if r.err != api.OK {
		return nil
	}
	from := r.at
	r.at += int(n)
	return r.data[from:r.at]
}

// read reads a number of any size, the lowest byte first.
func read[N number](r *Reader) N {
	var n N
	for i, b := range r.take(uint64(width[N]())) {
		n |= N(b) << (8 * i)
	}
	return n
}

// counted reads a number, and as many bytes as it says. What is wrong with
// either is found ahead of both.
func counted[N number](r *Reader, most uint64) []byte {
	start := r.at
	n := uint64(read[N](r))
	switch {
	case n > most:
		r.at = start
		r.Fail(api.ErrWireLong)
	case n > uint64(r.Left()):
		r.at = start
		r.Fail(api.ErrWireShort)
	}
	return r.take(n)
}

// Byte reads a byte.
func (r *Reader) Byte() uint8 { return read[uint8](r) }

// Half reads two bytes.
func (r *Reader) Half() uint16 { return read[uint16](r) }

// Word reads four.
func (r *Reader) Word() uint32 { return read[uint32](r) }

// Long reads eight.
func (r *Reader) Long() uint64 { return read[uint64](r) }

// Raw reads so many bytes.
func (r *Reader) Raw(n int) []byte {
	if n < 0 {
		r.Fail(api.ErrWireArg)
		return nil
	}
	return bytes.Clone(r.take(uint64(n)))
}

// Text reads a text of at most so many bytes.
func (r *Reader) Text(most int) string {
	if most < 0 {
		r.Fail(api.ErrWireArg)
		return ""
	}
	return string(counted[uint16](r, uint64(most)))
}

// Pad reads noughts up to a multiple.
func (r *Reader) Pad(to int) {
	if !mayPad(to) {
		r.Fail(api.ErrWireArg)
		return
	}
	start := r.at
	for i, b := range r.take(uint64(padding(start, to))) {
		if b != 0 {
			r.at = start
			r.failAt(api.ErrWireZero, start+i)
			return
		}
	}
}

// Part is a reader of as many bytes as the next Word says; of none, and wrong
// by the same error, if this one is wrong then.
func (r *Reader) Part() *Reader {
	part := counted[uint32](r, math.MaxUint32)
	return &Reader{data: part, err: r.err}
}

// End says that there must be nothing more.
func (r *Reader) End() {
	if r.Left() > 0 {
		r.Fail(api.ErrWireMore)
	}
}

// Left is how many bytes are left.
func (r *Reader) Left() int {
	if r.err != api.OK {
		return 0
	}
	return len(r.data) - r.at
}

// At is how many have been read.
func (r *Reader) At() int { return r.at }

// Err is what went wrong first, and where.
func (r *Reader) Err() (api.Errno, int) { return r.err, r.where }
