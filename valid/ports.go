package valid

import "cloister/api"

const (
	wordBytes = 4
	minSize   = wordBytes
)

func wrongSample(g api.Config) (int, bool) {
	return firstWrong(g.Samples, api.MaxSamples, func(s api.Sample) bool {
		return !isSize(s.Size) || len(s.Readers) == 0 || !areApart(g, s.Writer, s.Readers...)
	})
}

func wrongQueue(g api.Config) (int, bool) {
	return firstWrong(g.Queues, api.MaxQueues, func(q api.Queue) bool {
		return !isSize(q.Size) || !areApart(g, q.Writer, q.Reader) ||
			q.Depth < 1 || q.Depth > api.MaxDepth || q.Quota < 1 || q.Quota > api.MaxQuota
	})
}

func isSize(n int) bool { return n >= minSize && n <= api.MaxMessage && n%wordBytes == 0 }

// areApart tells whether a port's writer and its readers are cells, and none of
// them the same as another.
func areApart(g api.Config, writer int, readers ...int) bool {
	if !isCell(g, writer) {
		return false
	}
	var seen [api.MaxCells + 1]bool // by cells' numbers
	seen[writer] = true
	for _, r := range readers {
		if !isCell(g, r) || seen[r] {
			return false
		}
		seen[r] = true
	}
	return true
}
