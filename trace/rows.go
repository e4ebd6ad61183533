package trace

import (
	"cloister/api"
	"cloister/wire"
)

const (
	mark      = "CLTR"
	headBytes = len(mark) + wordBytes
	rowBytes  = 22
	sumBytes  = wordBytes
	wordBytes = 4
)

// bytesOf is the trace of observations that may be. No writer is refused here,
// nor is one ever full: MaxTrace rows are far below the greatest limit.
func bytesOf(l []api.Obs) []byte {
	w, _ := wire.NewWriter(headBytes + len(l)*rowBytes + sumBytes)
	w.Raw([]byte(mark))
	w.Word(uint32(len(l)))
	w.Raw(rowsOf(l))
	ahead, _ := w.Done()
	w.Word(wire.Sum(ahead))
	b, _ := w.Done()
	return b
}

// rowsOf is the rows of at most MaxTrace observations.
func rowsOf(l []api.Obs) []byte {
	w, _ := wire.NewWriter(len(l) * rowBytes)
	for _, o := range l {
		w.Long(o.Tick)
		w.Byte(uint8(o.Cell))
		w.Byte(uint8(o.Kind))
		w.Word(o.PC)
		w.Word(o.A)
		w.Word(o.B)
	}
	b, _ := w.Done()
	return b
}

// readRows reads rows, whether they may be or not.
func readRows(b []byte) []api.Obs {
	r := wire.NewReader(b)
	l := make([]api.Obs, len(b)/rowBytes)
	for i := range l {
		o := &l[i]
		o.Tick = r.Long()
		o.Cell = int(r.Byte())
		o.Kind = api.ObsKind(r.Byte())
		o.PC = r.Word()
		o.A = r.Word()
		o.B = r.Word()
	}
	return l
}

// marked is with how many bytes of the mark these begin.
func marked(b []byte) int {
	n := 0
	for n < len(mark) && n < len(b) && b[n] == mark[n] {
		n++
	}
	return n
}

// isWhole tells whether there are as many bytes as the number of rows says. It
// is held against its bound first, so that nothing wraps.
func isWhole(b []byte) bool {
	if len(b) < headBytes+sumBytes {
		return false
	}
	n := wordAt(b, len(mark))
	return n <= api.MaxTrace && len(b) == headBytes+int(n)*rowBytes+sumBytes
}

func wordAt(b []byte, at int) uint32 {
	return wire.NewReader(b[at : at+wordBytes]).Word()
}
