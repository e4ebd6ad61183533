package valid_test

import (
	"math"
	"testing"

	"cloister/api"
)

// sizes that a port may have, and some that it may not.
func sizes() (may, not []int) {
	for n := -300; n <= 600; n++ {
		if n >= 4 && n <= 256 && n%4 == 0 {
			may = append(may, n)
		} else {
			not = append(not, n)
		}
	}
	return may, append(not, math.MinInt, math.MaxInt, 1<<32+4, -1<<62, 1<<62)
}

func TestSampleSize(t *testing.T) {
	may, not := sizes()
	for i := range 2 {
		g := roomy()
		for _, n := range may {
			g.Samples[i].Size = n
			wantCheck(t, "a size", g, api.OK, 0)
		}
		for _, n := range not {
			g.Samples[i].Size = n
			wantCheck(t, "no size", g, api.ErrValidSample, i)
		}
	}
}

func TestSampleCells(t *testing.T) {
	for _, c := range []struct {
		writer  int
		readers []int
		want    api.Errno
	}{
		{1, []int{2}, api.OK}, {1, []int{3}, api.OK}, {3, []int{1}, api.OK},
		{1, []int{2, 3}, api.OK}, {1, []int{3, 2}, api.OK}, {2, []int{3, 1}, api.OK},
		{1, nil, api.ErrValidSample}, {1, []int{}, api.ErrValidSample},
		{1, []int{1}, api.ErrValidSample}, {1, []int{2, 1}, api.ErrValidSample}, {3, []int{2, 3}, api.ErrValidSample},
		{1, []int{2, 2}, api.ErrValidSample}, {1, []int{2, 3, 2}, api.ErrValidSample}, {1, []int{3, 3}, api.ErrValidSample},
		{1, []int{0}, api.ErrValidSample}, {1, []int{2, 0}, api.ErrValidSample}, {1, []int{4}, api.ErrValidSample},
		{1, []int{2, 4}, api.ErrValidSample}, {1, []int{8}, api.ErrValidSample}, {1, []int{9}, api.ErrValidSample},
		{1, []int{-1}, api.ErrValidSample}, {1, []int{math.MinInt}, api.ErrValidSample}, {1, []int{2, math.MaxInt}, api.ErrValidSample},
		{0, []int{2}, api.ErrValidSample}, {4, []int{2}, api.ErrValidSample}, {8, []int{2}, api.ErrValidSample}, {9, []int{2}, api.ErrValidSample},
		{-1, []int{2}, api.ErrValidSample}, {math.MinInt, []int{2}, api.ErrValidSample}, {math.MaxInt, []int{2}, api.ErrValidSample},
		{0, []int{0}, api.ErrValidSample},
	} {
		for i := range 2 {
			g := roomy()
			g.Samples[i].Writer, g.Samples[i].Readers = c.writer, c.readers
			wantCheck(t, "a port's cells", g, c.want, map[api.Errno]int{api.ErrValidSample: i}[c.want])
		}
	}
}

func TestSampleOfEightCells(t *testing.T) {
	g := crowd(8)
	g.Windows, g.Major = []api.Window{{Cell: 1, Length: 1 << 20}}, 1<<20
	g.Samples = []api.Sample{{Writer: 8, Size: 4, Readers: []int{7, 6, 5, 4, 3, 2, 1}}}
	wantCheck(t, "all cells", g, api.OK, 0)
	g.Samples[0].Readers[6] = 8
	wantCheck(t, "the writer among them", g, api.ErrValidSample, 0)
	g.Samples[0].Readers[6] = 9
	wantCheck(t, "no cell among them", g, api.ErrValidSample, 0)
	g.Samples[0].Readers = []int{7, 6, 5, 4, 3, 2, 1, 7}
	wantCheck(t, "one twice", g, api.ErrValidSample, 0)
}

func TestQueueSize(t *testing.T) {
	may, not := sizes()
	for i := range 2 {
		g := roomy()
		for _, n := range may {
			g.Queues[i].Size = n
			wantCheck(t, "a size", g, api.OK, 0)
		}
		for _, n := range not {
			g.Queues[i].Size = n
			wantCheck(t, "no size", g, api.ErrValidQueue, i)
		}
	}
}

// TestQueueDepthAndQuota: both are asked of each queue, flow-controlled or not.
func TestQueueDepthAndQuota(t *testing.T) {
	numbers := []int{math.MinInt, -1 << 32, -32, math.MaxInt, 1 << 32, 1<<32 + 1}
	for n := -1; n < 70; n++ {
		numbers = append(numbers, n)
	}
	for i := range 2 {
		for _, flow := range []bool{false, true} {
			for _, n := range numbers {
				g := roomy()
				g.Queues[i].Flow, g.Queues[i].Depth = flow, n
				wantCheck(t, "Depth", g, refuse(n < 1 || n > 32), place(n < 1 || n > 32, i))
				g = roomy()
				g.Queues[i].Flow, g.Queues[i].Quota = flow, n
				wantCheck(t, "Quota", g, refuse(n < 1 || n > 16), place(n < 1 || n > 16, i))
			}
		}
	}
}

func refuse(wrong bool) api.Errno {
	if wrong {
		return api.ErrValidQueue
	}
	return api.OK
}

func place(wrong bool, i int) int {
	if wrong {
		return i
	}
	return 0
}

func TestQueueCells(t *testing.T) {
	numbers := []int{math.MinInt, -1, 0, 1, 2, 3, 4, 7, 8, 9, 257, 1<<32 + 1, math.MaxInt}
	for i := range 2 {
		for _, writer := range numbers {
			for _, reader := range numbers {
				g := roomy()
				g.Queues[i].Writer, g.Queues[i].Reader = writer, reader
				wrong := writer < 1 || writer > 3 || reader < 1 || reader > 3 || writer == reader
				wantCheck(t, "a queue's cells", g, refuse(wrong), place(wrong, i))
			}
		}
	}
}

// TestHowManyPorts: 16 of each kind; that there are more is told once these
// are well.
func TestHowManyPorts(t *testing.T) {
	for n := range 40 {
		g := roomy()
		g.Samples, g.Queues = nil, nil
		for range n {
			g.Samples = append(g.Samples, api.Sample{Writer: 1, Size: 4, Readers: []int{2}})
			g.Queues = append(g.Queues, api.Queue{Writer: 1, Reader: 2, Size: 4, Depth: 1, Quota: 1})
		}
		samples, queues := g.Samples, g.Queues
		g.Queues = nil
		wantMost(t, g, n, api.ErrValidSample)
		for wrong := range n {
			samples[wrong].Size = 3
			wantCheck(t, "a sample that is wrong", g, api.ErrValidSample, min(wrong, 16))
			samples[wrong].Size = 4
		}
		g.Samples, g.Queues = nil, queues
		wantMost(t, g, n, api.ErrValidQueue)
		for wrong := range n {
			queues[wrong].Size = 3
			wantCheck(t, "a queue that is wrong", g, api.ErrValidQueue, min(wrong, 16))
			queues[wrong].Size = 4
		}
	}
}

func wantMost(t *testing.T, g api.Config, n int, e api.Errno) {
	t.Helper()
	if n <= 16 {
		wantCheck(t, "ports", g, api.OK, 0)
	} else {
		wantCheck(t, "too many ports", g, e, 16)
	}
}
