package valid_test

import (
	"bytes"
	"math"
	"math/rand"
	"testing"

	"cloister/api"
	"cloister/arena"
	"cloister/config"
	"cloister/memory"
	"cloister/tables"
	"cloister/valid"
	"cloister/wire"
)

// wantModel wants what the model says of a configuration, whatever it is.
func wantModel(t *testing.T, g api.Config) fault {
	t.Helper()
	want := modelCheck(g)
	if e, n := valid.Check(g); (fault{e, n}) != want {
		t.Fatalf("%+v: Check = %d, %d, want %d", g, e, n, want)
	}
	for cell := -1; cell <= len(g.Cells)+1; cell++ {
		if step, end := valid.MaxStep(g, cell), valid.Switch(g, cell); step != modelStep(g, cell) || end != modelSwitch(g, cell) {
			t.Fatalf("%+v: MaxStep = %d, Switch = %d, want %d, %d", g, step, end, modelStep(g, cell), modelSwitch(g, cell))
		}
	}
	if n := valid.Need(g); n != modelNeed(g) {
		t.Fatalf("%+v: Need = %d, want %d", g, n, modelNeed(g))
	}
	return want
}

func TestAsTheModel(t *testing.T) {
	random := rand.New(rand.NewSource(1))
	told := map[api.Errno]int{}
	for i := range 20000 {
		g := anyValid(random)
		for range i % 4 {
			if len(g.Windows) > 0 {
				changed(random, &g)
			}
		}
		told[wantModel(t, g).wrong]++
	}
	for e := api.ErrValidMachine; e <= api.ErrValidBudget; e++ {
		if told[e] < 50 {
			t.Errorf("error %d was told %d times: the test asks too little", e, told[e])
		}
	}
	if told[api.OK] < 5000 {
		t.Errorf("%d were well: the test asks too little", told[api.OK])
	}
}

// TestOfAnyNumbers: whatever the numbers are, each call ends.
func TestOfAnyNumbers(t *testing.T) {
	random := rand.New(rand.NewSource(2))
	for range 5000 {
		g := anyValid(random)
		for _, n := range ints(&g) {
			if random.Intn(3) == 0 {
				*n = int(random.Uint64() >> random.Intn(64))
			}
		}
		for _, n := range words(&g) {
			if random.Intn(3) == 0 {
				*n = random.Uint32()
			}
		}
		for _, n := range longs(&g) {
			if random.Intn(3) == 0 {
				*n = random.Uint64() >> random.Intn(64)
			}
		}
		if step := random.Intn(3); step > 0 { // so that later rules are come to
			m := good()
			g.Pages, g.OwnBase, g.OwnPages, g.Shape, g.Slots, g.Major = m.Pages, m.OwnBase, m.OwnPages, m.Shape, m.Slots, m.Major
			if step == 2 {
				g.Cells = m.Cells
			}
		}
		wantModel(t, g)
	}
}

// TestOfLongLists: also lists that are far too long are looked through.
func TestOfLongLists(t *testing.T) {
	const many = 200000
	g := roomy()
	g.Samples, g.Queues = make([]api.Sample, many), make([]api.Queue, many)
	for i := range many {
		g.Samples[i] = api.Sample{Writer: 1, Size: 256, Readers: []int{2}}
		g.Queues[i] = api.Queue{Writer: 1, Reader: 2, Size: 256, Depth: 32, Quota: 16, Flow: true}
	}
	wantCheck(t, "many ports", g, api.ErrValidSample, 16)
	wantSwitch(t, "many ports", g, 1, 48+68+2*many*64*33)
	wantNeed(t, "many ports", g, 8+many*(512+64*256)/4096)
	g.Samples = nil
	wantCheck(t, "many queues", g, api.ErrValidQueue, 16)
	g.Queues, g.Windows = nil, make([]api.Window, many)
	wantCheck(t, "many windows", g, api.ErrValidWindow, 0)
	g.Cells[0].Lines = make([]int, many)
	wantCheck(t, "many lines", g, api.ErrValidLine, 1)
	g.Cells[1].Ranges = make([]api.Range, many)
	wantCheck(t, "many ranges", g, api.ErrValidCell, 2)
	g.Cells = make([]api.Cell, many)
	wantCheck(t, "many cells", g, api.ErrValidCell, 0)
	wantNeed(t, "many cells", g, many)
	g = roomy()
	g.Samples[0].Readers = make([]int, many)
	wantCheck(t, "many readers", g, api.ErrValidSample, 0)
	g.Cells[0].Name = string(bytes.Repeat([]byte("n"), many))
	wantCheck(t, "a long name", g, api.ErrValidCell, 1)
}

// TestWhatIsAcceptedCanBeBuilt: tables in the monitor's own pages, and
// messages in what they leave.
func TestWhatIsAcceptedCanBeBuilt(t *testing.T) {
	random := rand.New(rand.NewSource(3))
	for range 300 {
		g := anyValid(random)
		wantCheck(t, "a valid one", g, api.OK, 0)
		m, e := memory.New(g.Pages)
		if e != api.OK {
			t.Fatalf("no memory of %d pages", g.Pages)
		}
		a, e := arena.New(m, g.OwnBase, g.OwnPages)
		if e != api.OK {
			t.Fatalf("no arena of %d pages from %d on", g.OwnPages, g.OwnBase)
		}
		owner := map[uint32]int{} // of frames
		for i := range uint32(g.OwnPages) {
			owner[g.OwnBase/api.PageSize+i]++
		}
		for _, c := range g.Cells {
			s, e := tables.New(a)
			if e != api.OK || s.Map(c.Ranges...) != api.OK {
				t.Fatalf("%+v cannot be mapped", c)
			}
			for _, page := range tables.All(m, s.Root()) {
				owner[page.Frame]++
			}
			if _, _, f := tables.Walk(m, s.Root(), c.Entry, api.AccessExec); f != api.FaultNone {
				t.Fatalf("%+v cannot begin: fault %d", c, f)
			}
		}
		for frame, n := range owner {
			if n != 1 || int(frame) >= g.Pages {
				t.Fatalf("%d have page %d", n, frame)
			}
		}
		if left := a.Left() * api.PageSize; left < messages(g) {
			t.Fatalf("%d bytes are left for %d", left, messages(g))
		}
	}
}

// messages is how many bytes all have that all ports can have at once.
func messages(g api.Config) int {
	n := 0
	for _, s := range g.Samples {
		n += s.Size + s.Size
	}
	for _, q := range g.Queues {
		staged := q.Quota
		if q.Flow {
			staged = q.Depth
		}
		n += (q.Depth + staged) * q.Size
	}
	return n
}

func TestNoLineIsTwoCells(t *testing.T) {
	random := rand.New(rand.NewSource(4))
	accepted := 0
	for range 5000 {
		g := anyValid(random)
		for i := range g.Cells {
			if len(g.Cells[i].Lines) > 0 && random.Intn(10) == 0 {
				*pick(random, lines(&g.Cells[i])) = random.Intn(32)
			}
		}
		if e, _ := valid.Check(g); e != api.OK {
			continue
		}
		accepted++
		owner := map[int]int{}
		for _, c := range g.Cells {
			for _, line := range c.Lines {
				owner[line]++
				if owner[line] > 1 || line < 0 || line > 31 {
					t.Fatalf("%+v: line %d", g, line)
				}
			}
		}
	}
	if accepted < 1000 || accepted > 4999 {
		t.Errorf("%d were accepted: the test asks too little", accepted)
	}
}

func lines(c *api.Cell) []*int {
	var all []*int
	for i := range c.Lines {
		all = append(all, &c.Lines[i])
	}
	return all
}

// TestLongerWindows: where a window is made longer, those behind it are moved
// and Major is as much longer, nothing that was well is wrong.
func TestLongerWindows(t *testing.T) {
	random := rand.New(rand.NewSource(5))
	for i := range 3000 {
		g := anyValid(random)
		if i%2 == 1 {
			changed(random, &g)
		}
		if len(g.Windows) == 0 || g.Major == 0 || g.Major > api.MaxMajor {
			continue
		}
		before, at := valid.Check(g)
		by := pick(random, []uint64{1, 2, uint64(random.Intn(1 << 20)), api.MaxMajor - g.Major})
		k := random.Intn(len(g.Windows))
		if g.Windows[k].Length > math.MaxUint64-by {
			continue // a longer one cannot be said
		}
		lengthen(&g, k, min(by, api.MaxMajor-g.Major))
		after, then := valid.Check(g)
		if before == api.OK && after != api.OK {
			t.Fatalf("%+v: window %d longer by %d: %d, %d", g, k, by, after, then)
		}
		if before != api.OK && before < api.ErrValidWindow && (after != before || then != at) {
			t.Fatalf("%+v: window %d longer by %d: %d, %d, was %d, %d", g, k, by, after, then, before, at)
		}
	}
}

func lengthen(g *api.Config, k int, by uint64) {
	g.Windows[k].Length += by
	g.Major += by
	for i := k + 1; i < len(g.Windows); i++ {
		g.Windows[i].Start += by
	}
}

// accepted tells whether bytes are accepted: they are a configuration, and one
// that may be.
func accepted(b []byte) (api.Config, bool) {
	g, e, _ := config.Decode(b)
	if e != api.OK {
		return api.Config{}, false
	}
	e, _ = valid.Check(g)
	return g, e == api.OK
}

// TestConfigurationsAreExact: T4: each configuration that is valid can be
// written, and what is written is accepted; bytes that are accepted are what is
// written of a configuration that is valid.
func TestConfigurationsAreExact(t *testing.T) {
	random := rand.New(rand.NewSource(6))
	taken, refused := 0, 0
	for range 1500 {
		g := anyValid(random)
		blob, e := config.Encode(g)
		if e != api.OK {
			t.Fatalf("%+v cannot be written: %d", g, e)
		}
		if h, ok := accepted(blob); !ok || !config.Equal(g, h) {
			t.Fatalf("%+v is not accepted", g)
		}
		for range 20 {
			b := turned(random, blob)
			h, ok := accepted(b)
			again, _ := config.Encode(h)
			switch {
			case ok && (!bytes.Equal(again, b) || modelCheck(h) != fault{}):
				t.Fatalf("% x is accepted", b)
			case ok:
				taken++
			default:
				refused++
			}
		}
	}
	if taken < 500 || refused < 500 {
		t.Errorf("%d were taken, %d refused: the test asks too little", taken, refused)
	}
}

// turned is a blob of which a byte of the body, or anything, is another one.
func turned(random *rand.Rand, blob []byte) []byte {
	b := bytes.Clone(blob)
	if random.Intn(4) == 0 {
		b[random.Intn(len(b))] ^= 1 << random.Intn(8)
		return b
	}
	sumAt := len(b) - 4
	b[12+random.Intn(sumAt-12)] ^= 1 << random.Intn(8)
	sum := wire.Sum(b[:sumAt])
	copy(b[sumAt:], []byte{byte(sum), byte(sum >> 8), byte(sum >> 16), byte(sum >> 24)})
	return b
}
