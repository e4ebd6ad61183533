package snapshot

import (
	"cloister/api"
	"cloister/wire"
)

// writer writes fields, but for those that do not hold what is to go into them.
type writer struct {
	*wire.Writer
	unfit bool // there was such a one
}

func newWriter() *writer {
	w, _ := wire.NewWriter(mostBytes)
	return &writer{Writer: w}
}

// unsigned is what an int is written as.
type unsigned interface {
	uint8 | uint32 | uint64
}

// fit writes an int, if the field has room for it.
func fit[N unsigned](w *writer, n int, write func(N)) {
	if n < 0 || uint64(n) > uint64(^N(0)) {
		w.unfit = true
		return
	}
	write(N(n))
}

func (w *writer) byteOf(n *int) { fit(w, *n, w.Byte) }

func (w *writer) wordOf(n *int) { fit(w, *n, w.Word) }

func (w *writer) longOf(n *int) { fit(w, *n, w.Long) }

func (w *writer) word(n *uint32) { w.Word(*n) }

func (w *writer) long(n *uint64) { w.Long(*n) }

func (w *writer) perm(p *api.Perm) { w.Byte(uint8(*p)) }

func (w *writer) flag(yes *bool) {
	if *yes {
		w.Byte(1)
	} else {
		w.Byte(0)
	}
}

func (w *writer) bytes(b *[]byte) {
	fit(w, len(*b), w.Word)
	w.Raw(*b)
	w.pad()
}

func (w *writer) pad() { w.Pad(wordBytes) }

func (w *writer) over() bool { return w.unfit }
