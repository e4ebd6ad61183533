package boot

import (
	"cloister/api"
	"cloister/memory"
)

// piece is bytes that lie in one range, and where that has them in memory.
type piece struct {
	at   uint32
	data []byte
}

// placed parts what is to be laid into a cell's memory by the ranges in which
// it lies.
func placed(g api.Config, l api.Load) ([]piece, api.Errno) {
	if l.Cell < 1 || l.Cell > len(g.Cells) {
		return nil, api.ErrBootArg
	}
	ranges := g.Cells[l.Cell-1].Ranges
	var pieces []piece
	at := uint64(l.At) // in 64 bits it does not wrap: behind the last address there is no range
	for rest := l.Data; len(rest) > 0; {
		r, there := rangeAt(ranges, at)
		if !there {
			return nil, api.ErrBootArg
		}
		behind := at - uint64(r.Virtual)
		n := min(uint64(len(rest)), bytesOf(r)-behind)
		pieces = append(pieces, piece{r.Physical + uint32(behind), rest[:n]})
		rest, at = rest[n:], at+n
	}
	return pieces, api.OK
}

// rangeAt is the range in which an address lies; false: there is none.
func rangeAt(l []api.Range, at uint64) (api.Range, bool) {
	for _, r := range l {
		if start := uint64(r.Virtual); at >= start && at-start < bytesOf(r) {
			return r, true
		}
	}
	return api.Range{}, false
}

func bytesOf(r api.Range) uint64 { return uint64(r.Pages) * api.PageSize }

func lay(m *memory.Memory, pieces []piece) {
	for _, p := range pieces {
		m.Write(p.at, p.data) // it lies in a range, so in the memory: no error can come of it
	}
}
