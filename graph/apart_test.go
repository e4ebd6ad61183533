package graph_test

import (
	"math/rand"
	"reflect"
	"slices"
	"sync"
	"testing"

	"cloister/api"
	"cloister/config"
	"cloister/graph"
)

// wide lays something behind each list of which an answer is made.
func wide(g api.Config) api.Config {
	for i := range g.Samples {
		s := &g.Samples[i]
		s.Readers = append(s.Readers, 1, 2)[:len(s.Readers)]
	}
	g.Cells = append(g.Cells, api.Cell{Name: "room"})[:len(g.Cells)]
	g.Samples = append(g.Samples, sample(1, 2))[:len(g.Samples)]
	g.Queues = append(g.Queues, flow(1, 2))[:len(g.Queues)]
	return g
}

// whole is a copy of a configuration with all that stands behind its lists.
func whole(g api.Config) api.Config {
	g.Cells = g.Cells[:len(g.Cells)+1]
	g.Queues = g.Queues[:len(g.Queues)+1]
	g.Samples = g.Samples[:len(g.Samples)+1]
	samples := slices.Clone(g.Samples)
	for i, s := range samples[:len(samples)-1] {
		samples[i].Readers = s.Readers[:len(s.Readers)+2]
	}
	g.Samples = samples
	return config.Clone(g)
}

func askAll(g api.Config) {
	graph.Edges(g)
	graph.Groups(g)
	for cell := range len(g.Cells) + 2 {
		graph.Sources(g, cell)
		graph.Bears(g, 1, cell)
	}
}

func TestNothingIsChanged(t *testing.T) {
	random := rand.New(rand.NewSource(7))
	for range 2000 {
		g := wide(anyGraph(random))
		kept := whole(g)
		askAll(g)
		if !reflect.DeepEqual(whole(g), kept) {
			t.Fatalf("%+v was changed", kept)
		}
		wantModel(t, g) // and nothing of what stands behind the lists counts
	}
}

// scribble writes over a list and what stands behind it.
func scribble[T any](l []T, with T) {
	l = l[:cap(l)]
	for i := range l {
		l[i] = with
	}
}

// TestAnswersAreNewMemory: whoever writes into one changes no other.
func TestAnswersAreNewMemory(t *testing.T) {
	random := rand.New(rand.NewSource(8))
	for range 2000 {
		g := anyGraph(random)
		kept := config.Clone(g)
		edges, groups := graph.Edges(g), graph.Groups(g)
		scribble(graph.Edges(g), api.Edge{From: 77, To: 78})
		scribble(graph.Groups(g), []int{77})
		for _, group := range graph.Groups(g) {
			scribble(group, 77)
		}
		for cell := range len(g.Cells) + 2 {
			sources := graph.Sources(g, cell)
			scribble(graph.Sources(g, cell), 77)
			wantSources(t, "once more", g, cell, sources...)
		}
		wantEdges(t, "once more", g, edges...)
		wantGroups(t, "once more", g, groups...)
		if !config.Equal(g, kept) {
			t.Fatalf("%+v was changed", kept)
		}
	}
}

// TestGroupsAreApart: no list within the list has memory of another one.
func TestGroupsAreApart(t *testing.T) {
	random := rand.New(rand.NewSource(9))
	for range 2000 {
		g := anyGraph(random)
		for i := range graph.Groups(g) {
			want, got := graph.Groups(g), graph.Groups(g)
			scribble(got[i], 77)
			for j := range got {
				if i != j && !slices.Equal(got[j], want[j]) {
					t.Fatalf("%+v: the groups %d and %d share memory", g, i, j)
				}
			}
		}
	}
}

// TestNothingIsKept: what is handed in may be changed later.
func TestNothingIsKept(t *testing.T) {
	g := cells(3)
	g.Samples = []api.Sample{sample(1, 2)}
	g.Queues = []api.Queue{oneWay(2, 3)}
	edges, sources, groups := graph.Edges(g), graph.Sources(g, 3), graph.Groups(g)
	g.Samples[0].Writer, g.Samples[0].Readers[0] = 3, 1
	g.Queues[0] = flow(1, 2)
	wantModel(t, g)
	wantSources(t, "changed", g, 3, 3)
	if !slices.Equal(edges, []api.Edge{{From: 1, To: 2}, {From: 2, To: 3}}) || !slices.Equal(sources, []int{1, 2, 3}) || len(groups) != 3 {
		t.Errorf("answers were changed: %v, %v, %v", edges, sources, groups)
	}
}

// TestManyAtOnce: calls know nothing of one another (the race detector would
// tell).
func TestManyAtOnce(t *testing.T) {
	g := cells(4)
	g.Samples, g.Queues = []api.Sample{sample(1, 2, 3)}, []api.Queue{flow(3, 4)}
	var all sync.WaitGroup
	for range 8 {
		all.Go(func() {
			for range 50 {
				wantSources(t, "at once", g, 4, 1, 3, 4)
				wantGroups(t, "at once", g, []int{1}, []int{2}, []int{3, 4})
			}
		})
	}
	all.Wait()
}
