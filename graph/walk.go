package graph

import "cloister/api"

// walk goes along edges, and comes to each cell once.
type walk struct {
	been  []bool  // by cells' numbers
	ahead [][]int // by cells' numbers: where edges lead that were not gone along
}

func newWalk(g api.Config, along ...api.Edge) *walk {
	w := &walk{been: make([]bool, len(g.Cells)+1), ahead: make([][]int, len(g.Cells)+1)}
	for _, e := range along {
		w.ahead[e.From] = append(w.ahead[e.From], e.To)
	}
	return w
}

// from is all cells that can be come to from one, itself among them, in the
// order in which they are left: each one when there is nothing ahead of it any
// more. It has none that the walk had come to before. (The way back is kept in a
// list, not in calls: a path can be as long as there are cells.)
func (w *walk) from(cell int) []int {
	var left []int
	path := w.enter(nil, cell)
	for len(path) > 0 {
		here := path[len(path)-1]
		if l := w.ahead[here]; len(l) > 0 {
			w.ahead[here] = l[1:]
			path = w.enter(path, l[0])
			continue
		}
		left = append(left, here)
		path = path[:len(path)-1]
	}
	return left
}

// enter is a path that goes on to a cell, if the walk has not come to it before.
func (w *walk) enter(path []int, cell int) []int {
	if w.been[cell] {
		return path
	}
	w.been[cell] = true
	return append(path, cell)
}
