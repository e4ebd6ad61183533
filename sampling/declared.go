package sampling

import "cloister/api"

const (
	wordBytes = 4
	minSize   = wordBytes
)

func isCell(number int) bool { return number >= 1 && number <= api.MaxCells }

func isSize(n int) bool { return n >= minSize && n <= api.MaxMessage && n%wordBytes == 0 }

// readersOf is the cells that read a port, by their numbers; false: there is
// none, or the writer and they are not cells, each another one.
func readersOf(p api.Sample) (readers [api.MaxCells + 1]bool, apart bool) {
	if !isCell(p.Writer) || len(p.Readers) == 0 {
		return readers, false
	}
	for _, cell := range p.Readers {
		if !isCell(cell) || cell == p.Writer || readers[cell] {
			return readers, false
		}
		readers[cell] = true
	}
	return readers, true
}
