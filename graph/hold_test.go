package graph_test

import (
	"math/rand"
	"slices"
	"testing"

	"cloister/api"
	"cloister/graph"
)

// wantModel wants what the model says of a configuration, whatever it is.
func wantModel(t *testing.T, g api.Config) {
	t.Helper()
	bears := modelBears(g)
	wantEdges(t, "any", g, modelEdges(g)...)
	for cell := -2; cell <= len(g.Cells)+2; cell++ {
		wantSources(t, "any", g, cell, modelSources(bears, cell)...)
	}
	wantGroups(t, "any", g, modelGroups(bears)...)
	if t.Failed() {
		t.Fatalf("of %+v", g)
	}
}

// TestAllGraphsOfFour: each set of edges that four cells can have.
func TestAllGraphsOfFour(t *testing.T) {
	var all []api.Edge
	for from := 1; from <= 4; from++ {
		for to := 1; to <= 4; to++ {
			if from != to {
				all = append(all, api.Edge{From: from, To: to})
			}
		}
	}
	for set := range 1 << len(all) {
		g := cells(4)
		for i, e := range all {
			if set>>i&1 == 1 {
				g.Queues = append(g.Queues, oneWay(e.From, e.To))
			}
		}
		wantModel(t, g)
	}
}

func TestAsTheModel(t *testing.T) {
	random := rand.New(rand.NewSource(1))
	several, far := 0, 0 // groups of several cells; sources that are no neighbours
	for range 20000 {
		g := anyGraph(random)
		wantModel(t, g)
		for _, group := range graph.Groups(g) {
			if len(group) > 1 && len(group) < len(g.Cells) {
				several++
			}
		}
		for cell := 1; cell <= len(g.Cells); cell++ {
			for _, from := range graph.Sources(g, cell) {
				if from != cell && !modelEdge(g, api.Edge{From: from, To: cell}) {
					far++
				}
			}
		}
	}
	if several < 1000 || far < 1000 {
		t.Errorf("%d groups of several, %d sources that are far: the test asks too little", several, far)
	}
}

// TestBearsCanBeFollowed: who bears on one that bears on a third, bears on that;
// and Bears is as Sources says.
func TestBearsCanBeFollowed(t *testing.T) {
	random := rand.New(rand.NewSource(2))
	for range 300 {
		g := anyGraph(random)
		n := len(g.Cells)
		for a := range n + 2 {
			for b := range n + 2 {
				if graph.Bears(g, a, b) != slices.Contains(graph.Sources(g, b), a) {
					t.Fatalf("%+v: Bears(%d, %d) is not as Sources says", g, a, b)
				}
				for c := range n + 2 {
					if graph.Bears(g, a, b) && graph.Bears(g, b, c) && !graph.Bears(g, a, c) {
						t.Fatalf("%+v: %d bears on %d, that on %d, and the first not on the last", g, a, b, c)
					}
				}
			}
		}
	}
}

// TestSourcesAreClosed: each edge to one of them comes from one of them.
func TestSourcesAreClosed(t *testing.T) {
	random := rand.New(rand.NewSource(3))
	for range 5000 {
		g := anyGraph(random)
		edges := graph.Edges(g)
		for cell := 1; cell <= len(g.Cells); cell++ {
			sources := graph.Sources(g, cell)
			for _, e := range edges {
				if slices.Contains(sources, e.To) && !slices.Contains(sources, e.From) {
					t.Fatalf("%+v: %v comes in from outside of %v", g, e, sources)
				}
			}
		}
	}
}

// TestWhatOthersWriteTo: ports of cells outside of a cell's sources, to cells
// that are outside, too, change nothing of what the sources are.
func TestWhatOthersWriteTo(t *testing.T) {
	random := rand.New(rand.NewSource(4))
	asked := 0
	for range 10000 {
		g := anyGraph(random)
		if len(g.Cells) == 0 {
			continue
		}
		cell := 1 + random.Intn(len(g.Cells))
		sources := graph.Sources(g, cell)
		others := slices.DeleteFunc(graph.Sources(allToAll(len(g.Cells)), 1), func(x int) bool { return slices.Contains(sources, x) })
		if len(others) == 0 {
			continue
		}
		asked++
		other := func() int { return others[random.Intn(len(others))] }
		for range 1 + random.Intn(4) {
			q := oneWay(other(), other())
			q.Flow = random.Intn(2) == 0
			g.Queues = append(g.Queues, q)
			g.Samples = append(g.Samples, sample(other(), other(), other()))
		}
		wantSources(t, "others write more", g, cell, sources...)
		outside := func(writer int) bool { return slices.Contains(others, writer) }
		g.Samples = slices.DeleteFunc(g.Samples, func(s api.Sample) bool { return outside(s.Writer) })
		g.Queues = slices.DeleteFunc(g.Queues, func(q api.Queue) bool { return outside(q.Writer) })
		wantSources(t, "others write nothing", g, cell, sources...)
	}
	if asked < 3000 {
		t.Errorf("%d were asked: the test asks too little", asked)
	}
}

// allToAll has so many cells, each of which bears on each.
func allToAll(n int) api.Config {
	g := cells(n)
	for writer := 1; writer <= n; writer++ {
		s := sample(writer)
		for reader := 1; reader <= n; reader++ {
			s.Readers = append(s.Readers, reader)
		}
		g.Samples = append(g.Samples, s)
	}
	return g
}

// TestEachInOneGroup: groups are those that bear on one another, each way; each
// cell is in just one.
func TestEachInOneGroup(t *testing.T) {
	random := rand.New(rand.NewSource(5))
	for range 2000 {
		g := anyGraph(random)
		of := map[int]int{} // which group a cell is in
		least := 0
		for i, group := range graph.Groups(g) {
			if len(group) == 0 || !slices.IsSorted(group) || group[0] <= least {
				t.Fatalf("%+v: %v is no group behind one of %d", g, group, least)
			}
			least = group[0]
			for _, cell := range group {
				if _, twice := of[cell]; twice {
					t.Fatalf("%+v: %d is in two groups", g, cell)
				}
				of[cell] = i
			}
		}
		if len(of) != len(g.Cells) {
			t.Fatalf("%+v: %d cells are in groups", g, len(of))
		}
		for a := 1; a <= len(g.Cells); a++ {
			for b := 1; b <= len(g.Cells); b++ {
				if both := graph.Bears(g, a, b) && graph.Bears(g, b, a); both != (of[a] == of[b]) {
					t.Fatalf("%+v: %d and %d are in the groups %d and %d", g, a, b, of[a], of[b])
				}
			}
		}
	}
}

// TestOrderOfPorts: in which order ports and readers stand counts for nothing.
func TestOrderOfPorts(t *testing.T) {
	random := rand.New(rand.NewSource(6))
	for range 2000 {
		g := anyGraph(random)
		edges, groups := graph.Edges(g), graph.Groups(g)
		random.Shuffle(len(g.Samples), func(i, j int) { g.Samples[i], g.Samples[j] = g.Samples[j], g.Samples[i] })
		random.Shuffle(len(g.Queues), func(i, j int) { g.Queues[i], g.Queues[j] = g.Queues[j], g.Queues[i] })
		for _, s := range g.Samples {
			random.Shuffle(len(s.Readers), func(i, j int) { s.Readers[i], s.Readers[j] = s.Readers[j], s.Readers[i] })
		}
		wantEdges(t, "another order", g, edges...)
		wantGroups(t, "another order", g, groups...)
	}
}
