package valid

import (
	"slices"

	"cloister/api"
	"cloister/cache"
	"cloister/tables"
)

// costReach is the most that it takes to come to a number in memory: two
// entries of tables, and the number itself.
const costReach = 3 * (api.CostMiss + api.CostBack)

// MaxStep is the most ticks that one step of a cell takes.
func MaxStep(g api.Config, cell int) uint64 {
	if !isCell(g, cell) {
		return 0
	}
	return api.CostStep + costReach + max(costReach, api.CostCall+costReach*longest(g, cell))
}

// longest is how many words a message has at most that a cell can have copied.
func longest(g api.Config, cell int) uint64 {
	var most uint64
	for _, s := range g.Samples {
		if s.Writer == cell || slices.Contains(s.Readers, cell) {
			most = max(most, words(s.Size))
		}
	}
	for _, q := range g.Queues {
		if q.Writer == cell || q.Reader == cell {
			most = max(most, words(q.Size))
		}
	}
	return most
}

// Switch is the most ticks that the end of a cell's window takes.
func Switch(g api.Config, cell int) uint64 {
	if !isCell(g, cell) {
		return 0
	}
	_, flush := cache.Worst(g.Shape)
	return api.CostSwitch + api.CostScan + uint64(flush) + api.CostMove*joining(g, cell)
}

// joining is how many words can join at the end of a cell's window.
func joining(g api.Config, cell int) uint64 {
	var all uint64
	for _, s := range g.Samples {
		if s.Writer == cell {
			all += words(s.Size)
		}
	}
	for _, q := range g.Queues {
		if q.Writer == cell {
			all += uint64(staged(q)) * words(q.Size)
		}
	}
	return all
}

// Need is how many pages of its own the monitor needs.
func Need(g api.Config) int {
	ofTables, ofMessages := 0, 0 // pages, and bytes
	for _, c := range g.Cells {
		ofTables += tables.Need(c.Ranges...)
	}
	for _, s := range g.Samples {
		ofMessages += 2 * size(s.Size) // what is seen, and what waits
	}
	for _, q := range g.Queues {
		ofMessages += (depth(q) + staged(q)) * size(q.Size)
	}
	return ofTables + (ofMessages+api.PageSize-1)/api.PageSize
}

// staged is how many messages of a queue can wait for a window's end.
func staged(q api.Queue) int {
	if q.Flow {
		return depth(q)
	}
	return within(q.Quota, api.MaxQuota)
}

func depth(q api.Queue) int { return within(q.Depth, api.MaxDepth) }

func size(n int) int { return within(n, api.MaxMessage) }

// words is how many whole words a message of that size has.
func words(n int) uint64 { return uint64(size(n) / wordBytes) }

// within is a number, or the nearest one from 0 to most: here any configuration
// is asked, whether it may be or not.
func within(n, most int) int { return min(max(n, 0), most) }
