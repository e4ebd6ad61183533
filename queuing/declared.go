package queuing

import "cloister/api"

const (
	wordBytes    = 4
	minSize      = wordBytes
	mostAccepted = 1 << 60
)

// mayBe tells whether a port may be declared so.
func mayBe(q api.Queue) bool {
	return isCell(q.Writer) && isCell(q.Reader) && q.Writer != q.Reader &&
		isSize(q.Size) && within(q.Depth, 1, api.MaxDepth) && within(q.Quota, 1, api.MaxQuota)
}

func isCell(number int) bool { return within(number, 1, api.MaxCells) }

func isSize(n int) bool { return within(n, minSize, api.MaxMessage) && n%wordBytes == 0 }

func within(n, least, most int) bool { return n >= least && n <= most }
