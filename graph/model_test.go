package graph_test

import (
	"math/rand"
	"slices"

	"cloister/api"
)

// modelEdge asks the ports about one edge, in the chapter's words.
func modelEdge(g api.Config, e api.Edge) bool {
	n := len(g.Cells)
	if e.From == e.To || e.From < 1 || e.From > n || e.To < 1 || e.To > n {
		return false
	}
	for _, s := range g.Samples {
		if s.Writer == e.From && slices.Contains(s.Readers, e.To) {
			return true
		}
	}
	for _, q := range g.Queues {
		if q.Writer == e.From && q.Reader == e.To || q.Flow && q.Reader == e.From && q.Writer == e.To {
			return true
		}
	}
	return false
}

func modelEdges(g api.Config) []api.Edge {
	var all []api.Edge
	for from := range len(g.Cells) + 2 {
		for to := range len(g.Cells) + 2 {
			if e := (api.Edge{From: from, To: to}); modelEdge(g, e) {
				all = append(all, e)
			}
		}
	}
	return all
}

// modelBears is who bears on whom, by [from][to]: paths over 1, over 1 and 2,
// and so on.
func modelBears(g api.Config) [][]bool {
	n := len(g.Cells)
	bears := make([][]bool, n+1)
	for from := range bears {
		bears[from] = make([]bool, n+1)
		for to := range bears[from] {
			bears[from][to] = from > 0 && from == to || modelEdge(g, api.Edge{From: from, To: to})
		}
	}
	for over := 1; over <= n; over++ {
		for from := 1; from <= n; from++ {
			for to := 1; to <= n; to++ {
				bears[from][to] = bears[from][to] || bears[from][over] && bears[over][to]
			}
		}
	}
	return bears
}

func modelSources(bears [][]bool, cell int) []int {
	var all []int
	for from := 1; cell > 0 && cell < len(bears) && from < len(bears); from++ {
		if bears[from][cell] {
			all = append(all, from)
		}
	}
	return all
}

func modelGroups(bears [][]bool) [][]int {
	var all [][]int
	for least := 1; least < len(bears); least++ {
		var group []int
		for cell := 1; cell < len(bears); cell++ {
			if bears[least][cell] && bears[cell][least] {
				group = append(group, cell)
			}
		}
		if group[0] == least {
			all = append(all, group)
		}
	}
	return all
}

// anyGraph is any configuration, with few ports or many; some of their numbers
// are no cells'.
func anyGraph(random *rand.Rand) api.Config {
	n := random.Intn(11)
	g := cells(n)
	number := func() int {
		if random.Intn(12) == 0 {
			return strangers()[random.Intn(len(strangers()))]
		}
		return random.Intn(n + 2)
	}
	for range random.Intn(n + 1) {
		s := sample(number())
		for range random.Intn(4) {
			s.Readers = append(s.Readers, number())
		}
		g.Samples = append(g.Samples, s)
	}
	for range random.Intn(n + 1) {
		q := oneWay(number(), number())
		q.Flow = random.Intn(4) == 0
		g.Queues = append(g.Queues, q)
	}
	return g
}
