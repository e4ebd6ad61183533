package config

import (
	"cloister/api"
	"cloister/wire"
)

// room is more than the greatest blob has: 255 cells, each with 255 ranges,
// lines and bytes of a name, are less than 1200000 bytes, and all else is less
// than 100000.
const room = 1 << 21

// writer writes fields, but for those that do not hold what is to go into them.
type writer struct {
	*wire.Writer
	unfit bool // there was such a one
}

func newWriter() *writer {
	w, _ := wire.NewWriter(room)
	return &writer{Writer: w}
}

// narrow is what an int is written as.
type narrow interface {
	uint8 | uint16 | uint32
}

// fit writes an int, if the field has room for it.
func fit[N narrow](w *writer, n int, write func(N)) {
	if n < 0 || uint64(n) > uint64(^N(0)) {
		w.unfit = true
		return
	}
	write(N(n))
}

func (w *writer) byteOf(n *int) { fit(w, *n, w.Byte) }

func (w *writer) halfOf(n *int) { fit(w, *n, w.Half) }

func (w *writer) wordOf(n *int) { fit(w, *n, w.Word) }

func (w *writer) word(n *uint32) { w.Word(*n) }

func (w *writer) long(n *uint64) { w.Long(*n) }

func (w *writer) perm(p *api.Perm) { w.Byte(uint8(*p)) }

func (w *writer) flag(yes *bool) {
	if *yes {
		w.Byte(1)
	} else {
		w.Byte(0)
	}
}

func (w *writer) name(s *string) {
	fit(w, len(*s), w.Byte)
	w.Raw([]byte(*s))
}

func (w *writer) pad() { w.Pad(wordBytes) }
