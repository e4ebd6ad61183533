package graph_test

import (
	"math"
	"slices"
	"testing"

	"cloister/api"
	"cloister/graph"
)

// cells is a configuration of so many cells, without ports.
func cells(n int) api.Config { return api.Config{Cells: make([]api.Cell, n)} }

func sample(writer int, readers ...int) api.Sample {
	return api.Sample{Writer: writer, Size: 4, Readers: readers}
}

func oneWay(writer, reader int) api.Queue {
	return api.Queue{Writer: writer, Reader: reader, Size: 4, Depth: 1, Quota: 1}
}

func flow(writer, reader int) api.Queue {
	q := oneWay(writer, reader)
	q.Flow = true
	return q
}

func wantEdges(t *testing.T, what string, g api.Config, want ...api.Edge) {
	t.Helper()
	if l := graph.Edges(g); !slices.Equal(l, want) {
		t.Errorf("%s: Edges = %v, want %v", what, l, want)
	}
}

// wantSources wants Bears to say the same, too.
func wantSources(t *testing.T, what string, g api.Config, cell int, want ...int) {
	t.Helper()
	if l := graph.Sources(g, cell); !slices.Equal(l, want) {
		t.Errorf("%s: Sources(%d) = %v, want %v", what, cell, l, want)
	}
	for from := -2; from <= len(g.Cells)+2; from++ {
		if b := graph.Bears(g, from, cell); b != slices.Contains(want, from) {
			t.Errorf("%s: Bears(%d, %d) = %t", what, from, cell, b)
		}
	}
}

func wantGroups(t *testing.T, what string, g api.Config, want ...[]int) {
	t.Helper()
	if l := graph.Groups(g); !slices.EqualFunc(l, want, slices.Equal[[]int]) {
		t.Errorf("%s: Groups = %v, want %v", what, l, want)
	}
}

func TestExamples(t *testing.T) {
	g := cells(3)
	g.Samples = []api.Sample{sample(1, 2, 3)}
	g.Queues = []api.Queue{oneWay(2, 3)}
	wantEdges(t, "one-way", g, api.Edge{From: 1, To: 2}, api.Edge{From: 1, To: 3}, api.Edge{From: 2, To: 3})
	wantSources(t, "one-way", g, 3, 1, 2, 3)
	wantSources(t, "one-way", g, 1, 1)
	wantGroups(t, "one-way", g, []int{1}, []int{2}, []int{3})
	g.Queues[0].Flow = true
	wantEdges(t, "flow-controlled", g, api.Edge{From: 1, To: 2}, api.Edge{From: 1, To: 3}, api.Edge{From: 2, To: 3}, api.Edge{From: 3, To: 2})
	wantGroups(t, "flow-controlled", g, []int{1}, []int{2, 3})
	g = cells(3)
	g.Samples = []api.Sample{sample(9, 1, 2)}
	wantEdges(t, "a writer that is none", g)
	wantSources(t, "nobody", g, 0)
}

func TestWithoutPorts(t *testing.T) {
	wantEdges(t, "nothing", api.Config{})
	wantGroups(t, "nothing", api.Config{})
	for cell := -1; cell <= 2; cell++ {
		wantSources(t, "nothing", api.Config{}, cell)
	}
	for n := 1; n <= 9; n++ {
		g := cells(n)
		wantEdges(t, "without ports", g)
		var each [][]int
		for cell := 1; cell <= n; cell++ {
			wantSources(t, "without ports", g, cell, cell)
			each = append(each, []int{cell})
		}
		wantGroups(t, "without ports", g, each...)
	}
}

// TestEachKindOfPort: which ways it bears.
func TestEachKindOfPort(t *testing.T) {
	for a := 1; a <= 3; a++ {
		for b := 1; b <= 3; b++ {
			if a == b {
				continue
			}
			there, back := api.Edge{From: a, To: b}, api.Edge{From: b, To: a}
			both := []int{min(a, b), max(a, b)}
			g := cells(3)
			g.Samples = []api.Sample{sample(a, b)}
			wantEdges(t, "a sampling port", g, there)
			wantSources(t, "a sampling port", g, b, both...)
			wantSources(t, "a sampling port", g, a, a)
			g = cells(3)
			g.Queues = []api.Queue{oneWay(a, b)}
			wantEdges(t, "a one-way queue", g, there)
			wantSources(t, "a one-way queue", g, b, both...)
			wantSources(t, "a one-way queue", g, a, a)
			g.Queues = []api.Queue{flow(a, b)}
			edges := []api.Edge{there, back}
			if a > b {
				edges = []api.Edge{back, there}
			}
			wantEdges(t, "a flow-controlled queue", g, edges...)
			wantSources(t, "a flow-controlled queue", g, a, both...)
			wantSources(t, "a flow-controlled queue", g, b, both...)
			wantSources(t, "a flow-controlled queue", g, 6-a-b, 6-a-b)
		}
	}
}

// TestReadersOfOnePort: what one reads comes from the writer, not from those
// that read it, too.
func TestReadersOfOnePort(t *testing.T) {
	g := cells(4)
	g.Samples = []api.Sample{sample(3, 4, 1, 2)}
	wantEdges(t, "three readers", g, api.Edge{From: 3, To: 1}, api.Edge{From: 3, To: 2}, api.Edge{From: 3, To: 4})
	wantSources(t, "three readers", g, 1, 1, 3)
	wantSources(t, "three readers", g, 2, 2, 3)
	wantSources(t, "three readers", g, 4, 3, 4)
	wantGroups(t, "three readers", g, []int{1}, []int{2}, []int{3}, []int{4})
}

// TestEachOnce: however many ports make an edge, it is one.
func TestEachOnce(t *testing.T) {
	g := cells(3)
	g.Samples = []api.Sample{sample(2, 1, 1, 3, 1), sample(2, 3, 1), sample(1, 2)}
	g.Queues = []api.Queue{flow(1, 2), oneWay(2, 1), oneWay(2, 1), flow(2, 1), flow(2, 1)}
	wantEdges(t, "many ports", g, api.Edge{From: 1, To: 2}, api.Edge{From: 2, To: 1}, api.Edge{From: 2, To: 3})
	wantSources(t, "many ports", g, 3, 1, 2, 3)
	wantSources(t, "many ports", g, 1, 1, 2)
	wantGroups(t, "many ports", g, []int{1, 2}, []int{3})
}

// TestNeverTheSame: a port from a cell to itself makes no edge.
func TestNeverTheSame(t *testing.T) {
	g := cells(2)
	g.Samples = []api.Sample{sample(1, 1), sample(2, 2, 2)}
	g.Queues = []api.Queue{oneWay(1, 1), flow(2, 2)}
	wantEdges(t, "to itself", g)
	wantSources(t, "to itself", g, 1, 1)
	wantSources(t, "to itself", g, 2, 2)
	wantGroups(t, "to itself", g, []int{1}, []int{2})
	g.Samples[0].Readers = []int{1, 2, 1}
	wantEdges(t, "to itself and another", g, api.Edge{From: 1, To: 2})
}

// strangers are numbers that are none of three cells'.
func strangers() []int {
	return []int{math.MinInt, math.MinInt32, -3, -1, 0, 4, 5, 8, 9, 255, 1<<32 + 1, 1<<62 + 2, math.MaxInt}
}

func TestNumbersThatAreNoCells(t *testing.T) {
	for _, n := range strangers() {
		g := cells(3)
		g.Samples = []api.Sample{sample(n, 1, 2, 3), sample(1, n), sample(n, n)}
		g.Queues = []api.Queue{oneWay(n, 1), oneWay(1, n), oneWay(n, n), flow(n, 2), flow(2, n), flow(n, n)}
		wantEdges(t, "no cell", g)
		wantGroups(t, "no cell", g, []int{1}, []int{2}, []int{3})
		wantSources(t, "no cell", g, n)
		for cell := 1; cell <= 3; cell++ {
			wantSources(t, "no cell", g, cell, cell)
			if graph.Bears(g, n, cell) || graph.Bears(g, cell, n) || graph.Bears(g, n, n) {
				t.Errorf("%d and %d: one bears on the other", n, cell)
			}
		}
		// the port's other readers are read on
		g.Samples = []api.Sample{sample(1, n, 2, n, 3)}
		wantEdges(t, "no cell among readers", g, api.Edge{From: 1, To: 2}, api.Edge{From: 1, To: 3})
		// no path leads over what is no cell
		g.Samples, g.Queues = []api.Sample{sample(1, n)}, []api.Queue{oneWay(n, 2)}
		wantSources(t, "over no cell", g, 2, 2)
	}
}

// TestPortsWithoutCells: ports alone make no cells.
func TestPortsWithoutCells(t *testing.T) {
	g := cells(0)
	g.Samples = []api.Sample{sample(1, 2), sample(0, 0)}
	g.Queues = []api.Queue{flow(1, 2)}
	wantEdges(t, "no cells", g)
	wantGroups(t, "no cells", g)
	wantSources(t, "no cells", g, 0)
	wantSources(t, "no cells", g, 1)
	g = cells(1)
	g.Samples = []api.Sample{{Writer: 1}, sample(1, 2)}
	g.Queues = []api.Queue{flow(1, 2)}
	wantEdges(t, "one cell", g)
	wantGroups(t, "one cell", g, []int{1})
	wantSources(t, "one cell", g, 1, 1)
	wantSources(t, "one cell", g, 2)
}

// TestOrder: by From, then by To, as numbers, however the ports stand.
func TestOrder(t *testing.T) {
	g := cells(12)
	g.Queues = []api.Queue{oneWay(10, 1), oneWay(2, 11), flow(12, 3), oneWay(2, 9), oneWay(1, 10)}
	g.Samples = []api.Sample{sample(2, 12, 1), sample(9, 10, 2)}
	wantEdges(t, "any order", g,
		api.Edge{From: 1, To: 10}, api.Edge{From: 2, To: 1}, api.Edge{From: 2, To: 9}, api.Edge{From: 2, To: 11}, api.Edge{From: 2, To: 12},
		api.Edge{From: 3, To: 12}, api.Edge{From: 9, To: 2}, api.Edge{From: 9, To: 10}, api.Edge{From: 10, To: 1}, api.Edge{From: 12, To: 3})
	wantSources(t, "any order", g, 10, 1, 2, 9, 10)
	wantGroups(t, "any order", g, []int{1, 10}, []int{2, 9}, []int{3, 12}, []int{4}, []int{5}, []int{6}, []int{7}, []int{8}, []int{11})
}

// TestPaths: over as many cells as there are, and one way alone.
func TestPaths(t *testing.T) {
	for n := 2; n <= 20; n++ {
		up, down := cells(n), cells(n)
		var each [][]int
		all := []int{1}
		for i := 1; i < n; i++ {
			up.Queues = append(up.Queues, oneWay(i, i+1))
			down.Samples = append(down.Samples, sample(i+1, i))
			each, all = append(each, []int{i}), append(all, i+1)
		}
		each = append(each, []int{n})
		for cell := 1; cell <= n; cell++ {
			wantSources(t, "a chain", up, cell, all[:cell]...)
			wantSources(t, "a chain back", down, cell, all[cell-1:]...)
		}
		wantGroups(t, "a chain", up, each...)
		wantGroups(t, "a chain back", down, each...)
		up.Samples, down.Samples = []api.Sample{sample(n, 1)}, append(down.Samples, sample(1, n))
		for cell := 1; cell <= n; cell++ {
			wantSources(t, "a ring", up, cell, all...)
			wantSources(t, "a ring back", down, cell, all...)
		}
		wantGroups(t, "a ring", up, all)
		wantGroups(t, "a ring back", down, all)
	}
}

// TestGroupsInARow: two rings, of which the one bears on the other, are two
// groups, whichever has the least cell.
func TestGroupsInARow(t *testing.T) {
	rings := []api.Queue{oneWay(1, 4), oneWay(4, 6), oneWay(6, 1), flow(5, 2)}
	for _, between := range [][]api.Queue{nil, {oneWay(4, 5)}, {oneWay(2, 6)}, {oneWay(2, 3), oneWay(3, 6)}, {oneWay(6, 3), oneWay(3, 2)}} {
		g := cells(6)
		g.Queues = append(slices.Clone(rings), between...)
		wantGroups(t, "two rings", g, []int{1, 4, 6}, []int{2, 5}, []int{3})
	}
	g := cells(6)
	g.Queues = append(rings, oneWay(4, 5), oneWay(2, 6))
	wantGroups(t, "both ways", g, []int{1, 2, 4, 5, 6}, []int{3})
}

// TestPortsAlone: nothing of a configuration but how many cells there are, and
// who writes and reads, counts.
func TestPortsAlone(t *testing.T) {
	g := cells(3)
	g.Pages, g.OwnBase, g.OwnPages, g.Slots, g.Major = -1, 3, math.MaxInt, -7, math.MaxUint64
	g.Shape = api.Shape{Sets: -1, Ways: 99, Line: 3}
	g.Cells[0] = api.Cell{Name: "b", Entry: 5, Ranges: []api.Range{{Pages: -1}}, Lines: []int{1, 1}}
	g.Cells[1] = api.Cell{Name: "b", Lines: []int{1}}
	g.Windows = []api.Window{{Cell: 2}, {Cell: 9, Start: 5, Length: 1}}
	g.Samples = []api.Sample{{Writer: 1, Size: -4, Readers: []int{2}}}
	g.Queues = []api.Queue{{Writer: 3, Reader: 2, Size: math.MaxInt, Depth: -1, Quota: 1000, Flow: true}}
	wantEdges(t, "all else is wrong", g, api.Edge{From: 1, To: 2}, api.Edge{From: 2, To: 3}, api.Edge{From: 3, To: 2})
	wantGroups(t, "all else is wrong", g, []int{1}, []int{2, 3})
	wantSources(t, "all else is wrong", g, 3, 1, 2, 3)
}

// TestMoreThanMayBe: all cells and ports that there are count.
func TestMoreThanMayBe(t *testing.T) {
	g := cells(40)
	for range 40 {
		g.Samples = append(g.Samples, sample(1, 2))
		g.Queues = append(g.Queues, oneWay(2, 3))
	}
	g.Samples, g.Queues = append(g.Samples, sample(3, 40)), append(g.Queues, flow(40, 39))
	wantEdges(t, "40 cells", g,
		api.Edge{From: 1, To: 2}, api.Edge{From: 2, To: 3}, api.Edge{From: 3, To: 40}, api.Edge{From: 39, To: 40}, api.Edge{From: 40, To: 39})
	wantSources(t, "40 cells", g, 40, 1, 2, 3, 39, 40)
	wantSources(t, "40 cells", g, 41)
}

// TestVeryMany: a path as long as there are cells is gone along, and that takes
// about as long as it is.
func TestVeryMany(t *testing.T) {
	const n = 200000
	g := cells(n)
	for i := 1; i < n; i++ {
		g.Queues = append(g.Queues, oneWay(i, i+1))
	}
	if l := graph.Sources(g, n); len(l) != n || l[0] != 1 || l[n-1] != n {
		t.Errorf("%d cells bear on the last one", len(l))
	}
	if l := graph.Groups(g); len(l) != n || len(l[n-1]) != 1 || l[n-1][0] != n {
		t.Errorf("there are %d groups", len(l))
	}
	g.Queues = append(g.Queues, oneWay(n, 1))
	if l := graph.Groups(g); len(l) != 1 || len(l[0]) != n || l[0][n-1] != n {
		t.Errorf("there are %d groups", len(l))
	}
	if !graph.Bears(g, 2, 1) || len(graph.Edges(g)) != n {
		t.Errorf("the ring is none")
	}
	g.Queues, g.Samples = nil, []api.Sample{{Writer: n}}
	for i := range n {
		g.Samples[0].Readers = append(g.Samples[0].Readers, i)
	}
	if l := graph.Edges(g); len(l) != n-1 || l[n-2] != (api.Edge{From: n, To: n - 1}) {
		t.Errorf("there are %d edges", len(l))
	}
}
