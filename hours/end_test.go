package hours_test

import (
	"math"
	"slices"
	"testing"

	"cloister/api"
	"cloister/hours"
)

// late is ticks behind the last one.
func late() []uint64 {
	return []uint64{maxTick + 1, maxTick + 2, maxTick + 100, 1<<63 + 1<<40, math.MaxUint64 - 1, math.MaxUint64}
}

// TestLateTicks: ticks above MaxTick count as it in At and Next.
func TestLateTicks(t *testing.T) {
	for _, h := range ends(t) {
		k, in := h.At(maxTick)
		next := h.Next(maxTick)
		for _, tick := range late() {
			wantAt(t, h, tick, k, in)
			wantNext(t, h, tick, next)
		}
	}
}

// ends is tables at whose end of time there is each thing: a window's start,
// its inside, its last tick, room between windows, room at an edge of a frame.
func ends(t *testing.T) []*hours.Hours {
	t.Helper()
	const major = 100
	const last = maxTick % major // 7
	return []*hours.Hours{
		table(t, major, w(1, last, 1)),
		table(t, major, w(1, last, 20)),
		table(t, major, w(1, last-1, 20)),
		table(t, major, w(1, last+1, 20)),
		table(t, major, w(1, 0, last+1), w(2, 50, 50)),
		table(t, major, w(1, 0, last), w(2, last, 50)),
		table(t, major, w(1, 0, last), w(2, last+1, 50)),
		table(t, major, w(3, last+20, 30)),
		table(t, major, row(maxWindows)...),
		table(t, 1, w(1, 0, 1)),
		table(t, maxMajor, w(1, 0, maxMajor)),
		table(t, maxMajor, w(1, maxMajor-1, 1)), // MaxTick is the last tick of a frame
		table(t, maxMajor, w(1, 0, maxMajor-1)),
	}
}

// TestEndOfTime: what is at MaxTick, and around it.
func TestEndOfTime(t *testing.T) {
	const frames = maxTick / 100 // whole ones
	starts := table(t, 100, w(1, 7, 1))
	wantAt(t, starts, maxTick, frames, true)
	wantNext(t, starts, maxTick, frames)
	wantAt(t, starts, maxTick-1, frames-1, false)
	wantWindow(t, starts, frames, w(1, maxTick, 1))
	wantWindow(t, starts, frames-1, w(1, maxTick-100, 1))
	wantWindow(t, starts, frames+1, w(1, maxTick, 1)) // it would start later

	behind := table(t, 100, w(1, 8, 1)) // the first tick that is none
	wantAt(t, behind, maxTick, frames-1, false)
	wantNext(t, behind, maxTick, frames)
	wantWindow(t, behind, frames, w(1, maxTick, 1))
	wantWindow(t, behind, frames-1, w(1, maxTick-99, 1))

	within := table(t, 100, w(1, 0, 5), w(2, 6, 94))
	wantAt(t, within, maxTick, 2*frames+1, true)
	wantNext(t, within, maxTick, 2*frames+2)
	wantWindow(t, within, 2*frames+1, w(2, maxTick-1, 94)) // as long as always, though time ends
	wantWindow(t, within, 2*frames+2, w(1, maxTick, 5))

	ended := table(t, 100, w(1, 0, 7), w(2, 50, 1))
	wantAt(t, ended, maxTick, 2*frames, false)
	wantAt(t, ended, maxTick-1, 2*frames, true)
	wantNext(t, ended, maxTick, 2*frames+1)
}

// TestShortestFrame: where each tick is a window's start, numbers are ticks.
func TestShortestFrame(t *testing.T) {
	h := table(t, 1, w(6, 0, 1))
	for _, tick := range []uint64{0, 1, 2, 1 << 32, 1<<62 + 1, maxTick - 1, maxTick} {
		wantAt(t, h, tick, tick, true)
		wantNext(t, h, tick, tick)
		wantWindow(t, h, tick, w(6, tick, 1))
	}
	full := table(t, maxWindows, row(maxWindows)...)
	for _, tick := range []uint64{0, 31, 32, 1 << 32, maxTick - 1, maxTick} {
		wantAt(t, full, tick, tick, true)
		wantNext(t, full, tick, tick)
		wantWindow(t, full, tick, w(1+int(tick%maxCells), tick, 1))
	}
	for _, k := range late() {
		wantWindow(t, h, k, w(6, maxTick, 1))
		wantWindow(t, full, k, w(1+int(k%maxCells), maxTick, 1))
	}
}

// TestLongestFrame: the numbers of windows that would start behind the end of
// time, also where their starts would wrap round to ticks.
func TestLongestFrame(t *testing.T) {
	h := table(t, maxMajor, w(1, 0, 1), w(2, maxMajor-1, 1))
	const frames = 1 << 23 // of 2 to the 40 ticks each, up to MaxTick and one more
	wantWindow(t, h, 2*frames-2, w(1, maxTick-maxMajor+1, 1))
	wantWindow(t, h, 2*frames-1, w(2, maxTick, 1))
	wantWindow(t, h, 2*frames, w(1, maxTick, 1))
	wantAt(t, h, maxTick, 2*frames-1, true)
	wantNext(t, h, maxTick, 2*frames-1)
	wantAt(t, h, maxTick-1, 2*frames-2, false)
	for _, wraps := range []uint64{1 << 24, 1<<24 + 1, 1 << 25, 1 << 40, 1<<62 + 3} { // frames; 2 to the 24 are 2 to the 64 ticks
		wantWindow(t, h, 2*wraps, w(1, maxTick, 1))
		wantWindow(t, h, 2*wraps+1, w(2, maxTick, 1))
	}
	wantWindow(t, h, math.MaxUint64-1, w(1, maxTick, 1))
	wantWindow(t, h, math.MaxUint64, w(2, maxTick, 1))
}

// TestAllAtTheEnd: what starts at MaxTick is told, what starts behind it is
// not, whatever to is.
func TestAllAtTheEnd(t *testing.T) {
	const frames = maxTick / 100
	h := table(t, 100, w(1, 7, 1), w(2, 8, 92))
	last := told{2 * frames, w(1, maxTick, 1)}
	ahead := []told{{2*frames - 2, w(1, maxTick-100, 1)}, {2*frames - 1, w(2, maxTick-99, 92)}}
	for _, to := range late() {
		wantAll(t, h, maxTick-200, to, append([]told{{2*frames - 4, w(1, maxTick-200, 1)}, {2*frames - 3, w(2, maxTick-199, 92)}}, append(ahead, last)...)...)
		wantAll(t, h, maxTick-100, to, append(ahead, last)...)
		wantAll(t, h, maxTick-98, to, last)
		wantAll(t, h, maxTick, to, last)
	}
	wantAll(t, h, maxTick-100, maxTick, ahead...)
	wantAll(t, h, maxTick, maxTick)
	wantAll(t, h, maxTick, maxTick-1)

	behind := table(t, 100, w(1, 8, 1))
	for _, to := range late() {
		wantAll(t, behind, maxTick, to)
		wantAll(t, behind, maxTick-99, to, told{frames - 1, w(1, maxTick-99, 1)})
	}
}

// TestAllFromLateTicks: a late tick counts as itself in All: nothing starts at
// it or behind it that does not start behind MaxTick.
func TestAllFromLateTicks(t *testing.T) {
	for _, h := range ends(t) {
		for _, from := range late() {
			for _, to := range append(late(), 0, 100, maxTick) {
				wantAll(t, h, from, to)
			}
		}
	}
}

// TestAllFromAnyTick: a range that could go on for an age begins at once, and
// is left.
func TestAllFromAnyTick(t *testing.T) {
	h := table(t, 1, w(1, 0, 1))
	for _, from := range []uint64{0, 1 << 31, 1 << 62, maxTick - 2} {
		want := []told{{from, w(1, from, 1)}, {from + 1, w(1, from+1, 1)}, {from + 2, w(1, from+2, 1)}}
		for _, to := range late() {
			if l := collect(h.All(from, to), 3); !slices.Equal(l, want) {
				t.Errorf("All(%d, %d) = %v, want %v", from, to, l, want)
			}
		}
	}
}

// TestOwnersAndLengths: of any number, also where no such window starts any
// more.
func TestOwnersAndLengths(t *testing.T) {
	l := []api.Window{w(4, 1, 2), w(2, 3, 5), w(7, 9, 1)}
	h := table(t, 10, l...)
	for _, k := range append(late(), 0, 1, 2, 3, 4, 5, 1<<32, 1<<62, maxTick) {
		if is, want := w(h.Owner(k), 0, h.Length(k)), w(l[k%3].Cell, 0, l[k%3].Length); is != want {
			t.Errorf("of the window %d owner and length are %v, want %v", k, is, want)
		}
	}
}
