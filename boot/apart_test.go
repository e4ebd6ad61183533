package boot_test

import (
	"bytes"
	"math/rand"
	"slices"
	"sync"
	"testing"

	"cloister/api"
	"cloister/boot"
	"cloister/config"
)

// roomy is bytes with others behind them, and all of that.
func roomy(b []byte) (list, whole []byte) {
	whole = append(bytes.Clone(b), 0xaa, 0xbb, 0xcc, 0xdd)
	return whole[:len(b)], whole
}

// loads are some with room behind their Data and behind them, and all of that.
func loads() (list, whole []api.Load, data []byte) {
	data = []byte{1, 2, 3, 4, 5, 6, 7, 8, 99, 99}
	whole = []api.Load{load(1, 0x1000), load(2, 0x1ffe), load(3, 0x7ffffffe), load(9, 7, 7), load(0, 0)}
	for i := range 3 {
		whole[i].Data = data[:8]
	}
	return whole[:3], whole, data
}

// wantLoads: are they, and all that stands behind, as they were?
func wantLoads(t testing.TB, whole []api.Load, data []byte) {
	t.Helper()
	_, want, before := loads()
	if !bytes.Equal(data, before) {
		t.Errorf("Data is now %v", data)
	}
	same := func(a, b api.Load) bool { return a.Cell == b.Cell && a.At == b.At && bytes.Equal(a.Data, b.Data) }
	if !slices.EqualFunc(whole, want, same) {
		t.Errorf("what was handed in is now %+v", whole)
	}
}

// TestNothingIsChanged: neither what is handed in, nor what stands behind it,
// whatever the answer is, and whatever is done with the machine.
func TestNothingIsChanged(t *testing.T) {
	before := blobOf(t, good())
	blob, all := roomy(before)
	list, whole, data := loads()
	m, e := boot.Boot(blob, list...)
	if e != api.OK {
		t.Fatalf("Boot = %d", e)
	}
	spoil(m)
	wantRefused(t, "more loads", blob, api.ErrBootArg, whole...)
	wantRefused(t, "more bytes", all, api.ErrConfigBehind, list...)
	if want := append(bytes.Clone(before), 0xaa, 0xbb, 0xcc, 0xdd); !bytes.Equal(all, want) {
		t.Error("the blob was changed")
	}
	wantLoads(t, whole, data)
}

// TestNothingIsKept: what was handed in may be changed later.
func TestNothingIsKept(t *testing.T) {
	blob := blobOf(t, good())
	list, whole, data := loads()
	m, e := boot.Boot(blob, list...)
	if e != api.OK {
		t.Fatalf("Boot = %d", e)
	}
	for i := range blob {
		blob[i] = 0xff
	}
	for i := range data {
		data[i] = 0xff
	}
	clear(whole)
	list, _, _ = loads()
	wantSame(t, rand.New(rand.NewSource(200)), good(), m, booted(t, good(), list...))
}

// spoil changes all that a machine has.
func spoil(m *boot.Machine) {
	g := &m.Config
	for i := range g.Cells {
		c := &g.Cells[i]
		for k := range c.Ranges[:cap(c.Ranges)] {
			c.Ranges[:cap(c.Ranges)][k] = api.Range{Virtual: 7, Physical: 7, Pages: 7, Perm: 7}
		}
		fill(c.Lines, 77)
		c.Name, c.Entry = "spoilt", 77
	}
	for _, s := range g.Samples {
		fill(s.Readers, 77)
	}
	fill(g.Cells, api.Cell{Name: "gone"})
	fill(g.Windows, api.Window{Cell: 7, Start: 7, Length: 7})
	fill(g.Samples, api.Sample{Size: 77})
	fill(g.Queues, api.Queue{Size: 77})
	fill(m.Roots, 77)
	g.Pages, g.OwnBase, g.Major = 7, 7, 7
	m.Memory.Fill(0, m.Memory.Pages()*page, 0xee)
	m.MMU.Root(1, 0)
	m.MMU.Load(1, 0, 4)
	for line := range api.Lines {
		m.Gic.Route(line, 5)
		m.Gic.Raise(line)
	}
	for cell := range api.MaxCells + 1 {
		for _, p := range m.Samples {
			p.Write(cell, 1, nil)
			p.Turn(cell)
		}
		for _, p := range m.Queues {
			p.Send(cell, 1, nil)
			p.Turn(cell)
		}
	}
	fill(m.Samples, nil)
	fill(m.Queues, nil)
}

// fill writes into a list, and behind it.
func fill[T any](l []T, x T) {
	l = l[:cap(l)]
	for i := range l {
		l[i] = x
	}
}

// TestMachinesAreApart: of the same bytes, or others.
func TestMachinesAreApart(t *testing.T) {
	random := rand.New(rand.NewSource(201))
	blob := blobOf(t, good())
	list, whole, data := loads()
	var all [3]*boot.Machine
	for i := range all {
		all[i], _ = boot.Boot(blob, list...)
	}
	spoil(all[1])
	other := booted(t, crowd(8))
	spoil(other)
	wantLoads(t, whole, data)
	wantSame(t, random, good(), all[0], all[2])
	wantSame(t, random, good(), booted(t, good(), list...), booted(t, good(), list...))
}

// TestConfigurationIsItsOwn: what is done to it changes nothing of what was
// made of it, and the other way round; nor do two of its lists share memory.
func TestConfigurationIsItsOwn(t *testing.T) {
	list, _, _ := loads()
	m, n := booted(t, good(), list...), booted(t, good(), list...)
	kept := config.Clone(m.Config)
	for _, x := range []*boot.Machine{m, n} {
		fill(x.Config.Windows, api.Window{Cell: 7, Start: 7, Length: 7})
		fill(x.Config.Cells[0].Ranges, api.Range{Pages: 7})
		fill(x.Config.Cells[0].Lines, 7)
		fill(x.Config.Samples[0].Readers, 7)
		fill(x.Config.Samples, api.Sample{Size: 7})
		fill(x.Config.Queues, api.Queue{Size: 7})
		if !slices.Equal(x.Config.Cells[1].Ranges, kept.Cells[1].Ranges) || !slices.Equal(x.Config.Cells[2].Lines, kept.Cells[2].Lines) {
			t.Error("one cell's lists are another's")
		}
		x.Config = config.Clone(kept)
	}
	wantSame(t, rand.New(rand.NewSource(202)), good(), m, n)
	m = booted(t, good())
	m.Memory.Fill(0, 48*page, 1)
	m.Gic.Route(31, 2)
	fill(m.Roots, 7)
	if !config.Equal(m.Config, good()) {
		t.Errorf("the configuration is now %+v", m.Config)
	}
}

// TestManyAtOnce: calls know nothing of one another (the race detector would
// tell).
func TestManyAtOnce(t *testing.T) {
	blob := blobOf(t, good())
	list, whole, data := loads()
	want := booted(t, good(), list...)
	var all sync.WaitGroup
	for range 8 {
		all.Go(func() {
			for range 20 {
				m, e := boot.Boot(blob, list...)
				if e != api.OK || !m.Memory.Equal(want.Memory) || m.Gic.State() != want.Gic.State() || !slices.Equal(m.Roots, want.Roots) {
					t.Errorf("another machine: %d", e)
					return
				}
				spoil(m)
				wantRefused(t, "more loads", blob, api.ErrBootArg, whole...)
			}
		})
	}
	all.Wait()
	wantLoads(t, whole, data)
}
