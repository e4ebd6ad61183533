package hours_test

import (
	"iter"
	"slices"
	"sync"
	"testing"

	"cloister/api"
	"cloister/hours"
)

// some is a list of windows with room behind it, and all of that.
func some() (list, whole []api.Window) {
	whole = []api.Window{w(3, 0, 5), w(1, 5, 5), w(3, 20, 5), w(8, 30, 5), w(2, 77, 1), w(9, 0, 0), w(-1, 1, 1)}
	return whole[:4], whole
}

// wantSome: is it the table of some and 100?
func wantSome(t testing.TB, h *hours.Hours) {
	t.Helper()
	wantAt(t, h, 12, 1, false)
	wantAt(t, h, 131, 7, true)
	wantNext(t, h, 31, 4)
	wantWindow(t, h, 6, w(3, 120, 5))
	wantOf(t, h, 3, 0, 2)
	wantAll(t, h, 5, 101, told{1, w(1, 5, 5)}, told{2, w(3, 20, 5)}, told{3, w(8, 30, 5)}, told{4, w(3, 100, 5)})
}

// use asks a table all that can be asked.
func use(h *hours.Hours) {
	for tick := range uint64(300) {
		h.At(tick)
		h.Next(tick)
		h.Start(tick)
		h.Length(tick)
		h.Owner(tick)
		h.Of(int(tick))
		collect(h.All(tick, 300-tick), 3)
	}
}

// TestNothingIsChanged: neither what is handed in, nor what stands behind it,
// whatever the answer is.
func TestNothingIsChanged(t *testing.T) {
	list, whole := some()
	h := table(t, 100, list...)
	use(h)
	hours.New(0, list...)
	hours.New(10, list...)
	hours.New(100, whole...)
	if _, want := some(); !slices.Equal(whole, want) {
		t.Errorf("what was handed in is now %v", whole)
	}
}

// TestNothingIsKept: what was handed in may be changed later.
func TestNothingIsKept(t *testing.T) {
	list, whole := some()
	h := table(t, 100, list...)
	all := h.All(5, 101)
	for i := range whole {
		whole[i] = w(7, 50, 50)
	}
	wantSome(t, h)
	if l := collect(all, 9); len(l) != 4 || l[0].w != w(1, 5, 5) {
		t.Errorf("an iterator tells %v", l)
	}
}

// TestAnswersAreNewMemory: whoever writes into one, or behind it, changes no
// other, nor the table.
func TestAnswersAreNewMemory(t *testing.T) {
	list, _ := some()
	h := table(t, 100, list...)
	own := h.Of(3)
	for range 3 {
		l := h.Of(3)
		l = l[:cap(l)]
		for i := range l {
			l[i] = -5
		}
		wantSome(t, h)
	}
	if !slices.Equal(own, []int{0, 2}) {
		t.Errorf("what was told is now %v", own)
	}
	for _, x := range h.All(0, 200) { // a window that is told is the caller's own
		x.Cell, x.Start, x.Length = 7, 7, 7
	}
	wantSome(t, h)
}

// TestTableDoesNotChange: by nothing that is asked of it, in any order.
func TestTableDoesNotChange(t *testing.T) {
	list, _ := some()
	h := table(t, 100, list...)
	for range 3 {
		use(h)
		wantSome(t, h)
		h.At(maxTick)
		h.Next(maxTick + 1)
		h.Start(1<<64 - 1)
		wantSome(t, h)
	}
}

// TestTablesAreApart: those of one list, and others, know nothing of one
// another.
func TestTablesAreApart(t *testing.T) {
	list, _ := some()
	h, other := table(t, 100, list...), table(t, 50, list...)
	again := table(t, 100, list...)
	use(other)
	wantWindow(t, other, 6, w(3, 70, 5))
	use(pair(t))
	wantSome(t, h)
	wantSome(t, again)
}

// early leaves a range behind so many, and tells how often it was told.
func early(all iter.Seq2[uint64, api.Window], most int) int {
	n := 0
	all(func(uint64, api.Window) bool {
		n++
		return n < most
	})
	return n
}

// TestAllStops: an iterator tells nothing more to whoever has left.
func TestAllStops(t *testing.T) {
	all := pair(t).All(0, 1000)
	for most := 1; most < 25; most++ {
		if n := early(all, most); n != min(most, 20) {
			t.Errorf("left behind %d, and told %d", most, n)
		}
	}
}

// TestAllAgain: ranged over again and again, also behind a range that was left.
func TestAllAgain(t *testing.T) {
	list, _ := some()
	h := table(t, 100, list...)
	all := h.All(5, 401)
	want := collect(all, 99)
	if len(want) != 16 {
		t.Fatalf("%d windows", len(want))
	}
	for most := range 20 {
		if l := collect(all, most); !slices.Equal(l, want[:min(most, 16)]) {
			t.Errorf("the first %d are %v", most, l)
		}
		if l := collect(all, 99); !slices.Equal(l, want) {
			t.Errorf("behind a range of %d: %v", most, l)
		}
		wantSome(t, h)
	}
}

// TestAllWithin: ranged over within a range of itself, and of another one.
func TestAllWithin(t *testing.T) {
	h := pair(t)
	all := h.All(0, 141)
	want := collect(all, 99)
	var outer []told
	for k, x := range all {
		outer = append(outer, told{k, x})
		for range all {
			if l := collect(all, 99); !slices.Equal(l, want) {
				t.Errorf("within: %v", l)
			}
			if l := collect(all, 2); !slices.Equal(l, want[:2]) {
				t.Errorf("within, left early: %v", l)
			}
		}
		wantAll(t, h, 40, 41, want[1])
		wantOf(t, h, 2, 1)
	}
	if !slices.Equal(outer, want) {
		t.Errorf("around: %v", outer)
	}
}

// TestAllIsThere: an iterator that has nothing to tell can be ranged over.
func TestAllIsThere(t *testing.T) {
	h := pair(t)
	for _, x := range [][2]uint64{{0, 0}, {141, 0}, {1 << 63, 1<<64 - 1}, {1<<64 - 1, 0}} {
		all := h.All(x[0], x[1])
		if all == nil {
			t.Fatalf("All(%d, %d) is nil", x[0], x[1])
		}
		for k := range all {
			t.Errorf("All(%d, %d) tells %d", x[0], x[1], k)
		}
	}
}

// TestManyAtOnce: asking changes nothing (the race detector would tell).
func TestManyAtOnce(t *testing.T) {
	list, _ := some()
	common := table(t, 100, list...)
	all := common.All(0, 141)
	var together sync.WaitGroup
	for range 8 {
		together.Go(func() {
			own := table(t, 100, list...)
			for range 50 {
				wantSome(t, common)
				wantSome(t, own)
				if n := len(collect(all, 99)); n != 8 {
					t.Errorf("%d windows at once", n)
				}
			}
		})
	}
	together.Wait()
}
