package hours_test

import (
	"math"
	"math/big"
	"math/rand"
	"slices"
	"testing"

	"cloister/api"
	"cloister/hours"
)

// model is a time table in the document's words, with numbers that have no end.
type model struct {
	major uint64
	l     []api.Window
}

func number(n uint64) *big.Int { return new(big.Int).SetUint64(n) }

func (m model) of(k *big.Int) api.Window {
	return m.l[new(big.Int).Mod(k, big.NewInt(int64(len(m.l)))).Int64()]
}

func (m model) start(k *big.Int) *big.Int {
	s := new(big.Int).Div(k, big.NewInt(int64(len(m.l))))
	s.Mul(s, number(m.major))
	return s.Add(s, number(m.of(k).Start))
}

// in: is a tick in the window k?
func (m model) in(tick uint64, k *big.Int) bool {
	s := m.start(k)
	behind := new(big.Int).Add(s, number(m.of(k).Length))
	return s.Cmp(number(tick)) <= 0 && behind.Cmp(number(tick)) > 0
}

// window is the window k, with its start, MaxTick at most.
func (m model) window(k uint64) api.Window {
	x := m.of(number(k))
	x.Start = maxTick
	if s := m.start(number(k)); s.Cmp(number(maxTick)) < 0 {
		x.Start = s.Uint64()
	}
	return x
}

// next: does no window ahead of k start at the tick or behind it, while k does?
func (m model) next(tick, k uint64) bool {
	if k > 0 && m.start(number(k-1)).Cmp(number(tick)) >= 0 {
		return false
	}
	return m.start(number(k)).Cmp(number(tick)) >= 0
}

// last: is k the last window that started at the tick or ahead of it?
func (m model) last(tick, k uint64) bool {
	behind := new(big.Int).Add(number(k), big.NewInt(1))
	return m.start(number(k)).Cmp(number(tick)) <= 0 && m.start(behind).Cmp(number(tick)) > 0
}

// check holds At and Next of a tick against the model.
func (m model) check(t *testing.T, h *hours.Hours, tick uint64) {
	t.Helper()
	counts := min(tick, maxTick)
	if k := h.Next(tick); !m.next(counts, k) {
		t.Errorf("%+v: Next(%d) = %d", m, tick, k)
	}
	k, in := h.At(tick)
	if m.l[0].Start > counts {
		if k != 0 || in {
			t.Errorf("%+v: At(%d) = %d, %v, and none has begun", m, tick, k, in)
		}
		return
	}
	if !m.last(counts, k) || in != m.in(counts, number(k)) {
		t.Errorf("%+v: At(%d) = %d, %v", m, tick, k, in)
	}
}

// checkAll holds All, of few windows, against the model.
func (m model) checkAll(t *testing.T, h *hours.Hours, from, to uint64) {
	t.Helper()
	var want []told
	k, _ := h.At(from)
	for k -= min(k, 2); ; k++ { // from a little ahead on
		s := m.start(number(k))
		if s.Cmp(number(to)) >= 0 || s.Cmp(number(maxTick)) > 0 || len(want) > 100 {
			break
		}
		if s.Cmp(number(from)) >= 0 {
			want = append(want, told{k, m.window(k)})
		}
	}
	if l := collect(h.All(from, to), 101); !slices.Equal(l, want) {
		t.Errorf("%+v: All(%d, %d) = %v, want %v", m, from, to, l, want)
	}
}

// anyTable is one that may be: of a short major frame, a long one, or one
// between; with room between windows, or without.
func anyTable(t *testing.T, random *rand.Rand) (*hours.Hours, model) {
	t.Helper()
	major := uint64(1)
	switch random.Intn(4) {
	case 0:
		major += uint64(random.Intn(8))
	case 1:
		major += uint64(random.Intn(100))
	case 2:
		major += uint64(random.Int63n(1 << (1 + random.Intn(40))))
	case 3:
		major = maxMajor - uint64(random.Intn(3))
	}
	m := model{major: major}
	for _, edge := range edges(random, major) {
		if random.Intn(4) > 0 || edge[1] == major && len(m.l) == 0 {
			m.l = append(m.l, w(1+random.Intn(maxCells), edge[0], edge[1]-edge[0]))
		}
	}
	return table(t, major, m.l...), m
}

// edges cuts a major frame into parts, at most as many as there may be windows.
func edges(random *rand.Rand, major uint64) [][2]uint64 {
	cuts := []uint64{0, major}
	for range random.Intn(maxWindows) {
		cuts = append(cuts, uint64(random.Int63n(int64(major)+1)))
	}
	slices.Sort(cuts)
	cuts = slices.Compact(cuts)
	var l [][2]uint64
	for i := range cuts[1:] {
		l = append(l, [2]uint64{cuts[i], cuts[i+1]})
	}
	return l
}

// anyTick is one near 0, near the end of time, behind it, or anywhere, often
// where something starts or ends.
func (m model) anyTick(random *rand.Rand) uint64 {
	frame := uint64(random.Int63()) / m.major
	switch random.Intn(5) {
	case 0:
		frame = uint64(random.Intn(3))
	case 1:
		frame = maxTick/m.major - min(uint64(random.Intn(3)), maxTick/m.major)
	case 2:
		return maxTick - uint64(random.Intn(5)) + 2
	case 3:
		return random.Uint64()
	}
	x := m.l[random.Intn(len(m.l))]
	tick := frame*m.major + x.Start
	if random.Intn(2) == 0 {
		tick += x.Length
	}
	return tick - min(tick, 1) + uint64(random.Intn(3))
}

// anyNumber is one of a window, near 0, near the end of time, or anywhere.
func (m model) anyNumber(random *rand.Rand) uint64 {
	switch random.Intn(4) {
	case 0:
		return uint64(random.Intn(100))
	case 1:
		last := maxTick / m.major * uint64(len(m.l))
		return last - min(last, 40) + uint64(random.Intn(80))
	case 2:
		return math.MaxUint64 - uint64(random.Intn(100))
	}
	return random.Uint64() >> random.Intn(64)
}

func TestAgainstModel(t *testing.T) {
	random := rand.New(rand.NewSource(18))
	for range 3000 {
		h, m := anyTable(t, random)
		for range 20 {
			tick, k := m.anyTick(random), m.anyNumber(random)
			m.check(t, h, tick)
			wantWindow(t, h, k, m.window(k))
			m.checkAll(t, h, tick, tick+uint64(random.Int63n(int64(min(3*m.major, 1<<41)))))
			m.checkAll(t, h, tick, m.anyTick(random))
		}
		if t.Failed() {
			return
		}
	}
}

// TestEachTick: of small tables each tick of some frames, each cell, each pair
// of ticks.
func TestEachTick(t *testing.T) {
	random := rand.New(rand.NewSource(81))
	for range 150 {
		h, m := anyTable(t, random)
		if m.major > 12 {
			continue
		}
		for tick := range 4 * m.major {
			m.check(t, h, tick)
			m.check(t, h, maxTick-tick)
			for to := range 4 * m.major {
				m.checkAll(t, h, tick, to)
				m.checkAll(t, h, maxTick-tick, maxTick-to+2)
			}
		}
		for cell := range maxCells + 2 {
			var want []int
			for i, x := range m.l {
				if x.Cell == cell {
					want = append(want, i)
				}
			}
			wantOf(t, h, cell, want...)
		}
	}
}

// TestWindowsDoNotOverlap: each starts at the end of the one ahead of it or
// later, by what the table itself tells.
func TestWindowsDoNotOverlap(t *testing.T) {
	random := rand.New(rand.NewSource(180))
	for range 500 {
		h, m := anyTable(t, random)
		for range 20 {
			k := m.anyNumber(random)
			if k == math.MaxUint64 || h.Start(k+1) == maxTick {
				continue
			}
			if h.Start(k)+h.Length(k) > h.Start(k+1) || h.Start(k) >= h.Start(k+1) {
				t.Errorf("%+v: the windows %d and %d overlap", m, k, k+1)
			}
		}
	}
}

// TestStartsComeBack: At and Next of a window's start are that window; Next of
// each other tick in it is the one behind it.
func TestStartsComeBack(t *testing.T) {
	random := rand.New(rand.NewSource(801))
	for range 500 {
		h, m := anyTable(t, random)
		for range 20 {
			k := m.anyNumber(random)
			if m.start(number(k)).Cmp(number(maxTick)) > 0 {
				continue
			}
			start, length := h.Start(k), h.Length(k)
			wantAt(t, h, start, k, true)
			wantNext(t, h, start, k)
			for _, in := range []uint64{1, 2, length / 2, length - 1} {
				if in > 0 && in < length && start+in <= maxTick {
					wantAt(t, h, start+in, k, true)
					wantNext(t, h, start+in, k+1)
				}
			}
		}
	}
}

// TestOneFrameLater: everything is as it was, but for the number.
func TestOneFrameLater(t *testing.T) {
	random := rand.New(rand.NewSource(108))
	for range 500 {
		h, m := anyTable(t, random)
		n := uint64(len(m.l))
		for range 20 {
			tick := m.anyTick(random)
			if tick > maxTick-m.major {
				continue
			}
			wantNext(t, h, tick+m.major, h.Next(tick)+n)
			if k, in := h.At(tick); tick >= m.l[0].Start {
				wantAt(t, h, tick+m.major, k+n, in)
			}
			k := h.Next(tick)
			if x := m.window(k); m.start(number(k+n)).Cmp(number(maxTick)) <= 0 {
				wantWindow(t, h, k+n, w(x.Cell, x.Start+m.major, x.Length))
			}
			m.checkLater(t, h, tick)
		}
	}
}

// checkLater: what All tells of a frame, it tells of the next one.
func (m model) checkLater(t *testing.T, h *hours.Hours, tick uint64) {
	t.Helper()
	if tick > maxTick-2*m.major {
		return
	}
	var want []told
	for _, x := range collect(h.All(tick, tick+m.major), 100) {
		want = append(want, told{x.k + uint64(len(m.l)), w(x.w.Cell, x.w.Start+m.major, x.w.Length)})
	}
	if len(want) != len(m.l) {
		t.Errorf("%+v: a frame from %d on has %d windows", m, tick, len(want))
	}
	wantAll(t, h, tick+m.major, tick+2*m.major, want...)
}
