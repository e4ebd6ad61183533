package gic

import (
	"iter"

	"cloister/api"
)

// nobody is to whom a line goes that goes to no cell.
const nobody = 0

func isLine(line int) bool { return line >= 0 && line < api.Lines }

// only is the set of one line.
func only(line int) uint32 { return 1 << line }

// each goes over the lines of a set, the lowest first.
func each(set uint32) iter.Seq[int] {
	return func(yield func(int) bool) {
		for line := range api.Lines {
			if set&only(line) != 0 && !yield(line) {
				return
			}
		}
	}
}

// routed is the set of lines that go to a cell, or to nobody.
func (g *Gic) routed(cell int) uint32 {
	var set uint32
	for line, to := range g.state.Route {
		if to == cell {
			set |= only(line)
		}
	}
	return set
}

// own is the set of a cell's lines: nobody has none that it could mask.
func (g *Gic) own(cell int) uint32 {
	if cell == nobody {
		return 0
	}
	return g.routed(cell)
}
