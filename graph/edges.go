package graph

import (
	"cmp"

	"cloister/api"
)

// edges that were seen.
type edges map[api.Edge]struct{}

// declared is all edges that the ports of a configuration make.
func declared(g api.Config) edges {
	seen := edges{}
	for _, s := range g.Samples {
		for _, reader := range s.Readers {
			seen.add(g, s.Writer, reader)
		}
	}
	for _, q := range g.Queues {
		seen.add(g, q.Writer, q.Reader)
		if q.Flow { // the writer is told whether there is room, which hangs on the reader
			seen.add(g, q.Reader, q.Writer)
		}
	}
	return seen
}

// add passes over what is no edge: here any configuration is asked, whether it
// may be or not.
func (e edges) add(g api.Config, from, to int) {
	if isCell(g, from) && isCell(g, to) && from != to {
		e[api.Edge{From: from, To: to}] = struct{}{}
	}
}

// isCell tells whether a number is a cell's.
func isCell(g api.Config, number int) bool { return number >= 1 && number <= len(g.Cells) }

func byEnds(a, b api.Edge) int {
	return cmp.Or(cmp.Compare(a.From, b.From), cmp.Compare(a.To, b.To))
}

// turned is each edge the other way round.
func turned(l []api.Edge) []api.Edge {
	back := make([]api.Edge, len(l))
	for i, e := range l {
		back[i] = api.Edge{From: e.To, To: e.From}
	}
	return back
}
