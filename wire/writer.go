package wire

import (
	"bytes"

	"cloister/api"
)

// Writer writes bytes, up to a limit; what has gone wrong stays wrong.
type Writer struct {
	limit  int
	data   []byte
	opened map[int]struct{} // the places of Words that are not shut yet
	err    api.Errno
}

// NewWriter is one that has written nothing.
func NewWriter(limit int) (*Writer, api.Errno) {
	if limit < 0 || limit > mostLimit {
		return nil, api.ErrWireArg
	}
	return &Writer{limit: limit, opened: map[int]struct{}{}}, api.OK
}

// fail has it go wrong; only the first error counts.
func (w *Writer) fail(e api.Errno) {
	if w.err == api.OK {
		w.err = e
	}
}

// takes tells whether so many bytes may be written now: all that writes asks
// it ahead of the first byte, so that nothing is ever written by half.
func (w *Writer) takes(n int) bool {
	if n > w.limit-len(w.data) {
		w.fail(api.ErrWireFull)
	}
	return w.err == api.OK
}

// write writes a number of any size.
func write[N number](w *Writer, n N) {
	size := width[N]()
	if !w.takes(size) {
		return
	}
	place := len(w.data)
	w.data = append(w.data, make([]byte, size)...)
	put(w.data[place:], n)
}

// put lays a number over bytes, the lowest one first.
func put[N number](b []byte, n N) {
	for i := range width[N]() {
		b[i] = byte(n >> (8 * i))
	}
}

// Byte writes a byte.
func (w *Writer) Byte(n uint8) { write(w, n) }

// Half writes two bytes, the lower one first.
func (w *Writer) Half(n uint16) { write(w, n) }

// Word writes four.
func (w *Writer) Word(n uint32) { write(w, n) }

// Long writes eight.
func (w *Writer) Long(n uint64) { write(w, n) }

// Raw writes bytes as they are.
func (w *Writer) Raw(b []byte) {
	if w.takes(len(b)) {
		w.data = append(w.data, b...)
	}
}

// Text writes a text: how many bytes it has (a Half), and these.
func (w *Writer) Text(s string) {
	if len(s) > mostText {
		w.fail(api.ErrWireLong)
	}
	if w.takes(width[uint16]() + len(s)) {
		w.Half(uint16(len(s)))
		w.data = append(w.data, s...)
	}
}

// Pad writes noughts up to a multiple.
func (w *Writer) Pad(to int) {
	if !mayPad(to) {
		w.fail(api.ErrWireArg)
		return
	}
	w.Raw(make([]byte, padding(len(w.data), to)))
}

// Open lays a Word open, and tells its place.
func (w *Writer) Open() int {
	place := len(w.data)
	w.Word(0)
	if w.err != api.OK {
		return 0
	}
	w.opened[place] = struct{}{}
	return place
}

// Shut fills the Word at a place with how many bytes stand behind it.
func (w *Writer) Shut(place int) {
	if _, ok := w.opened[place]; !ok {
		w.fail(api.ErrWireArg)
	}
	if w.err != api.OK {
		return
	}
	delete(w.opened, place)
	behind := len(w.data) - place - width[uint32]()
	put(w.data[place:], uint32(behind))
}

// Len is how many bytes there are.
func (w *Writer) Len() int { return len(w.data) }

// Done is all of it.
func (w *Writer) Done() ([]byte, api.Errno) {
	if w.err != api.OK {
		return nil, w.err
	}
	if len(w.opened) > 0 {
		return nil, api.ErrWireArg
	}
	return bytes.Clone(w.data), api.OK
}
