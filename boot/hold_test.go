package boot_test

import (
	"bytes"
	"math/rand"
	"slices"
	"testing"

	"cloister/api"
	"cloister/boot"
	"cloister/config"
	"cloister/tables"
	"cloister/valid"
)

// wantExact wants a blob to be booted just if it is accepted, and all Loads may
// be.
func wantExact(t testing.TB, blob []byte, l ...api.Load) bool {
	t.Helper()
	g, want, _ := config.Decode(blob)
	if want == api.OK {
		want, _ = valid.Check(g)
	}
	if want == api.OK && !modelLoads(g, make([]byte, g.Pages*page), l) {
		want = api.ErrBootArg
	}
	m, e := boot.Boot(blob, l...)
	if e != want || (m != nil) != (want == api.OK) {
		t.Fatalf("% x: Boot = %v, %d, want %d", blob, m, e, want)
	}
	if m != nil {
		if again := blobOf(t, m.Config); !bytes.Equal(again, blob) {
			t.Fatalf("% x: the configuration is % x", blob, again)
		}
	}
	return m != nil
}

// turned is a blob of which a bit is another one, mostly with its own sum.
func turned(random *rand.Rand, blob []byte) []byte {
	b := bytes.Clone(blob)
	b[random.Intn(len(b))] ^= 1 << random.Intn(8)
	if random.Intn(8) == 0 {
		return b
	}
	return summed(b)
}

// TestBootedJustIfAccepted: also of blobs that are nearly those of valid
// configurations.
func TestBootedJustIfAccepted(t *testing.T) {
	random := rand.New(rand.NewSource(195))
	made, refused := 0, 0
	for range 300 {
		g := anyValid(random)
		blob := blobOf(t, g)
		if !wantExact(t, blob) {
			t.Fatalf("%+v is not booted", g)
		}
		for range 10 {
			var l []api.Load
			for range random.Intn(2) {
				l = append(l, anyLoad(random, g))
			}
			if wantExact(t, turned(random, blob), l...) {
				made++
			} else {
				refused++
			}
		}
	}
	if made < 200 || refused < 1000 {
		t.Errorf("%d were booted, %d refused: the test asks too little", made, refused)
	}
}

// TestAnyBytes: whatever they are, Boot ends.
func TestAnyBytes(t *testing.T) {
	random := rand.New(rand.NewSource(196))
	blob := blobOf(t, good())
	for range 3000 {
		b := make([]byte, random.Intn(300))
		random.Read(b)
		if random.Intn(3) > 0 { // so that more of them is read
			b = summed(slices.Concat(blob[:random.Intn(len(blob))], b, make([]byte, 4)))
		}
		if random.Intn(2) == 0 && len(b) >= 16 {
			n := len(b) - 16
			copy(b, []byte{'C', 'L', 'S', 'T', 1, 0, 0, 0, byte(n), byte(n >> 8), 0, 0})
			b = summed(b)
		}
		wantExact(t, b, load(random.Intn(3), random.Uint32(), b...))
	}
}

// mapped is where each page of a cell is, by its ranges.
func mapped(c api.Cell) map[uint32]api.Entry {
	all := map[uint32]api.Entry{}
	for _, r := range c.Ranges {
		for i := range uint32(r.Pages) {
			all[r.Virtual+i*page] = api.Entry{Kind: api.EntryPage, Perm: r.Perm, Frame: r.Physical/page + i}
		}
	}
	return all
}

// wantWalks wants a cell to walk to just the pages of its ranges.
func wantWalks(t testing.TB, random *rand.Rand, m *boot.Machine, root uint32, c api.Cell) {
	t.Helper()
	own, told := mapped(c), 0
	for at, x := range tables.All(m.Memory, root) {
		if x != own[at] {
			t.Fatalf("page %#x is %+v, want %+v", at, x, own[at])
		}
		told++
	}
	if told != len(own) {
		t.Fatalf("%d pages, want %d", told, len(own))
	}
	for at := range own {
		for _, near := range []uint32{at, at - page, at + page, at + 4<<20, at - 4<<20, random.Uint32() &^ (page - 1)} {
			x, there := own[near]
			offset := uint32(random.Intn(page))
			for a := api.AccessRead; a <= api.AccessExec; a++ {
				to, fault := uint32(0), api.FaultUnmapped
				switch {
				case there && x.Perm>>(a-1)&1 == 1:
					to, fault = x.Frame*page+offset, api.FaultNone
				case there:
					fault = api.FaultDenied
				}
				if got, _, f := tables.Walk(m.Memory, root, near+offset, a); got != to || f != fault {
					t.Fatalf("at %#x, access %d: %#x, %d, want %#x, %d", near+offset, a, got, f, to, fault)
				}
			}
		}
	}
}

// TestCellsWalkToTheirRanges: and no two come to one page, nor one to the
// monitor's.
func TestCellsWalkToTheirRanges(t *testing.T) {
	random := rand.New(rand.NewSource(197))
	for i := range 100 {
		g := good()
		if i > 0 {
			g = anyValid(random)
		}
		m := booted(t, g)
		owners := map[uint32]int{} // of frames
		for k := range uint32(g.OwnPages) {
			owners[g.OwnBase/page+k]++
		}
		if len(m.Roots) != len(g.Cells) {
			t.Fatalf("%d roots", len(m.Roots))
		}
		for k, root := range m.Roots {
			wantWalks(t, random, m, root, g.Cells[k])
			for _, x := range tables.All(m.Memory, root) {
				owners[x.Frame]++
			}
		}
		for frame, n := range owners {
			if n != 1 || int(frame) >= g.Pages {
				t.Fatalf("%d come to page %d", n, frame)
			}
		}
	}
}

// reads is all that a cell can fetch or load, word by word.
func reads(m *boot.Machine, cell int) map[uint32]uint32 {
	all := map[uint32]uint32{}
	for _, r := range m.Config.Cells[cell-1].Ranges {
		for i := range uint32(r.Pages * page / 4) {
			at := r.Virtual + 4*i
			v, _, f := m.MMU.Load(cell, at, 4)
			if f != api.FaultNone {
				v, _, _ = m.MMU.Fetch(cell, at)
			}
			all[at] = v
		}
	}
	return all
}

// TestLoadsAreTheCellsOwn: what a Load says is read by its cell, and by nobody
// else.
func TestLoadsAreTheCellsOwn(t *testing.T) {
	random := rand.New(rand.NewSource(198))
	for i := range 40 {
		g := good()
		if i%2 == 1 {
			g = anyValid(random)
		}
		k := random.Intn(len(g.Cells))
		r := pick(random, g.Cells[k].Ranges)
		data := make([]byte, 1+random.Intn(r.Pages*page))
		for j := range data {
			data[j] = byte(1 + random.Intn(255))
		}
		at := r.Virtual + uint32(random.Intn(r.Pages*page-len(data)+1))
		m := booted(t, g, api.Load{Cell: k + 1, At: at, Data: data})
		for cell := range g.Cells {
			for word, v := range reads(m, cell+1) {
				want := uint32(0)
				for j := range uint32(4) {
					if place := word + j - at; cell == k && place < uint32(len(data)) {
						want |= uint32(data[place]) << (8 * j)
					}
				}
				if v != want {
					t.Fatalf("cell %d reads %#x at %#x, want %#x", cell+1, v, word, want)
				}
			}
		}
	}
}

// wantSame wants two machines to be the same. (They are not, later.)
func wantSame(t testing.TB, random *rand.Rand, g api.Config, m, n *boot.Machine) {
	t.Helper()
	if !config.Equal(m.Config, g) || !config.Equal(n.Config, g) || !m.Memory.Equal(n.Memory) || !slices.Equal(m.Roots, n.Roots) || m.Gic.State() != n.Gic.State() {
		t.Fatalf("%+v: two machines", g)
	}
	if len(m.Samples) != len(g.Samples) || len(n.Samples) != len(g.Samples) || len(m.Queues) != len(g.Queues) || len(n.Queues) != len(g.Queues) {
		t.Fatalf("%+v: ports are missing", g)
	}
	wantSameHours(t, m.Hours, g)
	wantSameHours(t, n.Hours, g)
	for i, s := range g.Samples {
		wantSample(t, m.Samples[i], s)
		wantSample(t, n.Samples[i], s)
	}
	for i, q := range g.Queues {
		wantQueue(t, m.Queues[i], q)
		wantQueue(t, n.Queues[i], q)
	}
	wantSameCosts(t, random, g, m.MMU, n.MMU)
	if !m.Memory.Equal(n.Memory) {
		t.Fatalf("%+v: two machines", g)
	}
}

// TestSameBytesSameMachine: whatever was booted between.
func TestSameBytesSameMachine(t *testing.T) {
	random := rand.New(rand.NewSource(199))
	for range 60 {
		g := anyValid(random)
		var l []api.Load
		for range random.Intn(4) {
			if x := anyLoad(random, g); modelLoads(g, make([]byte, g.Pages*page), []api.Load{x}) {
				l = append(l, x)
			}
		}
		m := booted(t, g, l...)
		boot.Boot(blobOf(t, anyValid(random)))
		boot.Boot(nil)
		wantSame(t, random, g, m, booted(t, g, l...))
	}
}
