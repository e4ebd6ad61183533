package monitor

import (
	"cmp"
	"container/heap"
	"slices"

	"cloister/api"
)

// arrivals are interrupts that are still to come. They are a heap, as one may
// be added at any tick: the first one to come is at the top.
type arrivals []api.Arrival

// Len, Less, Swap, Push and Pop are what a heap asks for.
func (l arrivals) Len() int { return len(l) }

func (l arrivals) Less(i, j int) bool { return inOrder(l[i], l[j]) < 0 }

func (l arrivals) Swap(i, j int) { l[i], l[j] = l[j], l[i] }

func (l *arrivals) Push(a any) { *l = append(*l, a.(api.Arrival)) }

func (l *arrivals) Pop() any {
	last := len(*l) - 1
	a := (*l)[last]
	*l = (*l)[:last]
	return a
}

// mayArrive tells whether there is such a line, and such a tick.
func mayArrive(a api.Arrival) bool {
	return a.Line >= 0 && a.Line < api.Lines && a.Tick <= api.MaxTick
}

// inOrder is how arrivals are told: by their ticks, then by their lines.
func inOrder(a, b api.Arrival) int {
	return cmp.Or(cmp.Compare(a.Tick, b.Tick), cmp.Compare(a.Line, b.Line))
}

func (l *arrivals) add(more []api.Arrival) {
	for _, a := range more {
		heap.Push(l, a)
	}
}

// until is the lines of those that come at a tick or ahead of it: they are
// arrivals no more.
func (l *arrivals) until(tick uint64) []int {
	var lines []int
	for len(*l) > 0 && (*l)[0].Tick <= tick {
		lines = append(lines, (*l)[0].Line)
		heap.Pop(l)
	}
	return lines
}

// sorted is all of them in their order.
func (l arrivals) sorted() []api.Arrival {
	return slices.SortedFunc(slices.Values(l), inOrder)
}
