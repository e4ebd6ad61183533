package hours_test

import (
	"iter"
	"math"
	"slices"
	"testing"

	"cloister/api"
	"cloister/hours"
)

// The document's numbers, written out: a constant that is another one would
// be told by these tests.
const (
	maxMajor   = 1099511627776
	maxTick    = 9223372036854775807
	maxWindows = 32
	maxCells   = 8
	errArg     = api.Errno(180)
)

// told is what an iterator tells of one window.
type told struct {
	k uint64
	w api.Window
}

func w(cell int, start, length uint64) api.Window {
	return api.Window{Cell: cell, Start: start, Length: length}
}

func table(t testing.TB, major uint64, l ...api.Window) *hours.Hours {
	t.Helper()
	h, e := hours.New(major, l...)
	if h == nil || e != api.OK {
		t.Fatalf("New(%d, %v) = %v, %d", major, l, h, e)
	}
	return h
}

// pair is the table of the document's first example.
func pair(t testing.TB) *hours.Hours {
	t.Helper()
	return table(t, 100, w(1, 0, 30), w(2, 40, 60))
}

// collect is what is told, at most so many.
func collect(all iter.Seq2[uint64, api.Window], most int) []told {
	var l []told
	if most == 0 {
		return l
	}
	for k, w := range all {
		l = append(l, told{k, w})
		if len(l) == most {
			break
		}
	}
	return l
}

func wantAt(t testing.TB, h *hours.Hours, tick, want uint64, in bool) {
	t.Helper()
	if k, is := h.At(tick); k != want || is != in {
		t.Errorf("At(%d) = %d, %v, want %d, %v", tick, k, is, want, in)
	}
}

func wantNext(t testing.TB, h *hours.Hours, tick, want uint64) {
	t.Helper()
	if k := h.Next(tick); k != want {
		t.Errorf("Next(%d) = %d, want %d", tick, k, want)
	}
}

// wantWindow: Start, Length and Owner of a window.
func wantWindow(t testing.TB, h *hours.Hours, k uint64, want api.Window) {
	t.Helper()
	if is := w(h.Owner(k), h.Start(k), h.Length(k)); is != want {
		t.Errorf("window %d is %v, want %v", k, is, want)
	}
}

func wantOf(t testing.TB, h *hours.Hours, cell int, want ...int) {
	t.Helper()
	if l := h.Of(cell); !slices.Equal(l, want) {
		t.Errorf("Of(%d) = %v, want %v", cell, l, want)
	}
}

func wantAll(t testing.TB, h *hours.Hours, from, to uint64, want ...told) {
	t.Helper()
	if l := collect(h.All(from, to), len(want)+9); !slices.Equal(l, want) {
		t.Errorf("All(%d, %d) = %v, want %v", from, to, l, want)
	}
}

// row is n windows of one tick each, one behind the other from 0 on.
func row(n int) []api.Window {
	var l []api.Window
	for i := range n {
		l = append(l, w(1+i%maxCells, uint64(i), 1))
	}
	return l
}

func TestNumbers(t *testing.T) {
	if api.MaxMajor != maxMajor || uint64(api.MaxTick) != maxTick || api.MaxWindows != maxWindows || api.MaxCells != maxCells || api.ErrHoursArg != errArg {
		t.Errorf("the bounds are %d, %d, %d, %d, %d", api.MaxMajor, uint64(api.MaxTick), api.MaxWindows, api.MaxCells, api.ErrHoursArg)
	}
}

func TestNew(t *testing.T) {
	for _, c := range []struct {
		what  string
		major uint64
		l     []api.Window
	}{
		{"two with room between", 100, []api.Window{w(1, 0, 30), w(2, 40, 60)}},
		{"one that starts later", 100, []api.Window{w(1, 10, 90)}},
		{"one that ends sooner", 100, []api.Window{w(1, 10, 80)}},
		{"one that ends where another starts", 100, []api.Window{w(1, 0, 40), w(2, 40, 1)}},
		{"two of one cell", 100, []api.Window{w(3, 0, 40), w(3, 40, 60)}},
		{"the least major frame", 1, []api.Window{w(1, 0, 1)}},
		{"the greatest major frame", maxMajor, []api.Window{w(1, 0, maxMajor)}},
		{"the last tick of the greatest one", maxMajor, []api.Window{w(1, maxMajor-1, 1)}},
		{"the greatest cell", 100, []api.Window{w(maxCells, 0, 1)}},
		{"one window of one tick", 100, []api.Window{w(1, 99, 1)}},
		{"all windows, no tick between", maxWindows, row(maxWindows)},
		{"all windows, and more ticks", 1000, row(maxWindows)},
	} {
		if h, e := hours.New(c.major, c.l...); h == nil || e != api.OK {
			t.Errorf("%s: New = %v, %d", c.what, h, e)
		}
	}
}

func TestNewOfWhatMayNotBe(t *testing.T) {
	const most = math.MaxUint64
	for _, c := range []struct {
		what  string
		major uint64
		l     []api.Window
	}{
		{"no major frame", 0, []api.Window{w(1, 0, 1)}},
		{"no major frame, no window", 0, nil},
		{"a major frame that is too long", maxMajor + 1, []api.Window{w(1, 0, 1)}},
		{"the longest number as major frame", most, []api.Window{w(1, 0, 1)}},
		{"no windows", 100, nil},
		{"a list of no windows", 100, []api.Window{}},
		{"a window too many", 100, row(maxWindows + 1)},
		{"many windows too many", 1000, row(1000)},
		{"the cell 0", 100, []api.Window{w(0, 0, 1)}},
		{"the cell 9", 100, []api.Window{w(maxCells+1, 0, 1)}},
		{"the cell -1", 100, []api.Window{w(-1, 0, 1)}},
		{"the least cell of all", 100, []api.Window{w(math.MinInt, 0, 1)}},
		{"the greatest cell of all", 100, []api.Window{w(math.MaxInt, 0, 1)}},
		{"a cell that is one but for its upper half", 100, []api.Window{w(1<<32+1, 0, 1)}},
		{"no length", 100, []api.Window{w(1, 0, 0)}},
		{"no length, at the end", 100, []api.Window{w(1, 100, 0)}},
		{"no length between others", 100, []api.Window{w(1, 0, 10), w(2, 10, 0), w(1, 10, 10)}},
		{"an end behind major", 100, []api.Window{w(1, 10, 91)}},
		{"a length above major", 100, []api.Window{w(1, 0, 101)}},
		{"a start at major", 100, []api.Window{w(1, 100, 1)}},
		{"a start behind major", 100, []api.Window{w(1, 101, 1)}},
		{"an end behind the greatest major", maxMajor, []api.Window{w(1, 1, maxMajor)}},
		{"an end that wraps round to 1", 100, []api.Window{w(1, most, 2)}},
		{"an end that wraps round to 0", 100, []api.Window{w(1, most, 1)}},
		{"a length that wraps round to 49", 100, []api.Window{w(1, 50, most)}},
		{"a start of half of all numbers, and as long", 100, []api.Window{w(1, 1<<63, 1<<63)}},
		{"an end that wraps round, behind another", 100, []api.Window{w(1, 0, 10), w(1, 20, most)}},
		{"two that overlap", 100, []api.Window{w(1, 0, 30), w(2, 20, 10)}},
		{"two that overlap by a tick", 100, []api.Window{w(1, 0, 30), w(2, 29, 10)}},
		{"one within the other", 100, []api.Window{w(1, 0, 30), w(2, 10, 10)}},
		{"two that are the same", 100, []api.Window{w(1, 0, 30), w(1, 0, 30)}},
		{"two of one start", 100, []api.Window{w(1, 0, 30), w(2, 0, 1)}},
		{"two in the wrong order", 100, []api.Window{w(1, 40, 10), w(1, 0, 10)}},
		{"a third one that overlaps the second", 100, []api.Window{w(1, 0, 30), w(2, 30, 30), w(3, 59, 10)}},
		{"a third one ahead of the second", 100, []api.Window{w(1, 0, 10), w(2, 50, 10), w(3, 20, 10)}},
	} {
		if h, e := hours.New(c.major, c.l...); h != nil || e != errArg {
			t.Errorf("%s: New = %v, %d", c.what, h, e)
		}
	}
}

// TestNewEachPlace: one window that may not be is found wherever it stands.
func TestNewEachPlace(t *testing.T) {
	good := func() []api.Window {
		var l []api.Window
		for i := range maxWindows {
			l = append(l, w(1+i%maxCells, uint64(10*i+3), 5))
		}
		return l
	}
	table(t, 10*maxWindows, good()...)
	for i := range maxWindows {
		for what, wrong := range []func(*api.Window){
			func(w *api.Window) { w.Cell = 0 },
			func(w *api.Window) { w.Cell = maxCells + 1 },
			func(w *api.Window) { w.Length = 0 },
			func(w *api.Window) { w.Length = 10*maxWindows + 1 },
			func(w *api.Window) { w.Length = 0 - w.Start },
			func(w *api.Window) { w.Start = math.MaxUint64 },
			func(w *api.Window) { w.Start += 10 * maxWindows },
		} {
			l := good()
			wrong(&l[i])
			if h, e := hours.New(10*maxWindows, l...); h != nil || e != errArg {
				t.Errorf("the window %d with fault %d: New = %v, %d", i, what, h, e)
			}
		}
		if i == 0 {
			continue
		}
		l := good()
		l[i-1].Length = 10 // up to the start of the next one, and no more
		table(t, 10*maxWindows, l...)
		l[i-1].Length = 11
		if h, e := hours.New(10*maxWindows, l...); h != nil || e != errArg {
			t.Errorf("the windows %d and %d overlap: New = %v, %d", i-1, i, h, e)
		}
	}
}

func TestExamples(t *testing.T) {
	h := pair(t)
	wantAt(t, h, 30, 0, false)
	wantAt(t, h, 40, 1, true)
	wantAt(t, h, 100, 2, true)
	wantWindow(t, h, 3, w(2, 140, 60))
	wantNext(t, h, 41, 2)
	wantWindow(t, h, 5, w(2, 240, 60))
	wantOf(t, h, 2, 1)
	wantAll(t, h, 0, 141, told{0, w(1, 0, 30)}, told{1, w(2, 40, 60)}, told{2, w(1, 100, 30)}, told{3, w(2, 140, 60)})
	wantAt(t, table(t, 100, w(1, 10, 90)), 5, 0, false)

	two := table(t, 10000, w(1, 0, 5000), w(2, 5000, 5000)) // DOC.md's
	wantWindow(t, two, 3, w(2, 15000, 5000))
}

func TestAtAndNext(t *testing.T) {
	h := pair(t)
	for _, c := range []struct {
		tick, k uint64
		in      bool
		next    uint64
	}{
		{0, 0, true, 0}, {1, 0, true, 1}, {29, 0, true, 1}, {30, 0, false, 1}, {39, 0, false, 1},
		{40, 1, true, 1}, {41, 1, true, 2}, {99, 1, true, 2}, {100, 2, true, 2}, {101, 2, true, 3},
		{129, 2, true, 3}, {130, 2, false, 3}, {140, 3, true, 3}, {199, 3, true, 4}, {200, 4, true, 4},
		{1000000, 20000, true, 20000}, {1000035, 20000, false, 20001},
	} {
		wantAt(t, h, c.tick, c.k, c.in)
		wantNext(t, h, c.tick, c.next)
	}
}

// TestAheadOfTheFirst: up to the first window's start none has begun, in the
// first frame alone; in later ones it is the last one of the frame ahead.
func TestAheadOfTheFirst(t *testing.T) {
	h := table(t, 100, w(4, 10, 20), w(2, 50, 40))
	for tick := range uint64(10) {
		wantAt(t, h, tick, 0, false)
		wantNext(t, h, tick, 0)
	}
	wantAt(t, h, 10, 0, true)
	wantNext(t, h, 10, 0)
	wantNext(t, h, 11, 1)
	for tick := uint64(90); tick < 110; tick++ { // across the edge of the frame
		wantAt(t, h, tick, 1, false)
		wantNext(t, h, tick, 2)
	}
	wantAt(t, h, 89, 1, true)
	wantAt(t, h, 110, 2, true)
	wantNext(t, h, 110, 2)
	wantAt(t, h, 205, 3, false)
	wantNext(t, h, 205, 4)
}

func TestOf(t *testing.T) {
	h := table(t, 100, w(3, 0, 5), w(1, 5, 5), w(3, 20, 5), w(8, 30, 5), w(3, 99, 1))
	wantOf(t, h, 1, 1)
	wantOf(t, h, 3, 0, 2, 4)
	wantOf(t, h, 8, 3)
	for _, cell := range []int{2, 4, 5, 6, 7, 0, -1, 9, 1<<32 + 3, math.MaxInt, math.MinInt} {
		wantOf(t, h, cell)
	}
	wantOf(t, table(t, maxMajor, w(5, maxMajor-1, 1)), 5, 0) // the last tick of the longest frame
	full := table(t, maxWindows, row(maxWindows)...)
	wantOf(t, full, 8, 7, 15, 23, 31)
	wantOf(t, full, 1, 0, 8, 16, 24)
}

func TestAll(t *testing.T) {
	h := table(t, 100, w(1, 10, 30), w(2, 40, 50))
	a, b, c, d := told{0, w(1, 10, 30)}, told{1, w(2, 40, 50)}, told{2, w(1, 110, 30)}, told{3, w(2, 140, 50)}
	for _, x := range []struct {
		from, to uint64
		want     []told
	}{
		{0, 0, nil}, {0, 10, nil}, {0, 11, []told{a}}, {10, 11, []told{a}}, {10, 10, nil}, {11, 40, nil}, {11, 41, []told{b}},
		{0, 40, []told{a}}, {0, 100, []told{a, b}}, {0, 110, []told{a, b}}, {0, 111, []told{a, b, c}}, {40, 140, []told{b, c}},
		{40, 141, []told{b, c, d}}, {41, 110, nil}, {50, 60, nil}, {90, 111, []told{c}}, {100, 200, []told{c, d}}, {141, 210, nil},
		{141, 141, nil}, {141, 140, nil}, {141, 0, nil}, {40, 11, nil}, {math.MaxUint64, 0, nil}, {1 << 63, 200, nil},
	} {
		wantAll(t, h, x.from, x.to, x.want...)
	}
}
