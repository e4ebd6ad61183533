package audit_test

import (
	"math"
	"math/rand"
	"testing"

	"cloister/api"
	"cloister/audit"
)

type counts = map[int]map[api.ObsKind]int

// wantCounted asks that Count comes to what a list has.
func wantCounted(t testing.TB, g api.Config, l []api.Obs) {
	t.Helper()
	type pair struct {
		cell int
		kind api.ObsKind
	}
	of := map[pair]int{}
	for _, o := range l {
		of[pair{o.Cell, o.Kind}]++
	}
	got, e := audit.Count(g, l...)
	if e != api.OK {
		t.Errorf("Count = %d", e)
	}
	all, rows := 0, 0
	for cell, kinds := range got {
		if len(kinds) == 0 {
			t.Errorf("cell %d has none, and is a key", cell)
		}
		for kind, n := range kinds {
			if n < 1 || n != of[pair{cell, kind}] {
				t.Errorf("cell %d has %d of the kind %d, not %d", cell, of[pair{cell, kind}], kind, n)
			}
			all += n
			rows++
		}
	}
	if all != len(l) || rows != len(of) {
		t.Errorf("%d are counted in %d rows, not %d in %d", all, rows, len(l), len(of))
	}
}

func TestCount(t *testing.T) {
	wantCount(t, pair(), counts{})
	wantCount(t, pair(), counts{2: {api.ObsSay: 1}}, obs(0, 2, api.ObsSay, 0, 0))
	wantCount(t, four(), counts{1: {api.ObsLoad: 2, api.ObsCall: 1}, 4: {api.ObsIrq: 1, api.ObsLoad: 1}},
		seen(1, 1), seen(5, 4), obs(6, 1, api.ObsCall, 7, 1), obs(7, 4, api.ObsIrq, 4, 0), seen(8, 1))
	all := counts{1: {}, 2: {}}
	var l []api.Obs
	for kind := api.ObsLoad; kind <= api.ObsSay; kind++ {
		for cell := 1; cell <= 2; cell++ {
			for range int(kind) * cell {
				l = append(l, obs(uint64(len(l)), cell, kind, 1, 0))
			}
			all[cell][kind] = int(kind) * cell
		}
	}
	wantCount(t, pair(), all, l...)
}

// TestCountOfWhatIsWrong: neither order, hours, kinds nor numbers are asked.
func TestCountOfWhatIsWrong(t *testing.T) {
	kinds := []api.ObsKind{0, -1, 8, 99, math.MaxInt, math.MinInt, 1 << 32}
	var l []api.Obs
	want := map[api.ObsKind]int{}
	for _, kind := range kinds {
		l = append(l, obs(ever, 1, kind, most, most), obs(0, 1, kind, 0, 0))
		want[kind] = 2
	}
	wantCount(t, pair(), counts{1: want}, l...)
	ended := []api.Obs{obs(9, 1, api.ObsHalt, 5, 5), obs(9, 1, api.ObsHalt, 0, 0), obs(8, 1, api.ObsFault, 0, 0), received(4999, 1, 4), seen(5000, 1), obs(1, 1, api.ObsClock, 7, 7), obs(1, 1, api.ObsIrq, 9, 9)}
	wantCount(t, pair(), counts{1: {api.ObsHalt: 2, api.ObsFault: 1, api.ObsCall: 1, api.ObsLoad: 1, api.ObsClock: 1, api.ObsIrq: 1}}, ended...)
}

func TestCountOfNoCell(t *testing.T) {
	for _, cell := range []int{0, -1, 3, 8, 9, 257, 1<<32 + 1, math.MaxInt, math.MinInt} {
		wantNoCount(t, pair(), api.ErrAuditCell, seen(1, cell))
		wantNoCount(t, pair(), api.ErrAuditCell, seen(1, 1), seen(2, 2), seen(3, cell))
		wantNoCount(t, pair(), api.ErrAuditCell, seen(1, cell), seen(2, 2), seen(3, 1))
		wantNoCount(t, pair(), api.ErrAuditCell, obs(1, cell, 0, 0, 0))
	}
}

// TestNoConfiguration: one that may not be, whatever was observed.
func TestNoConfiguration(t *testing.T) {
	for _, g := range broken() {
		for _, l := range [][]api.Obs{nil, {seen(0, 1)}, {seen(0, 1), seen(5000, 2)}, {seen(0, 9)}, {seen(ever, -1), seen(0, 0)}, {obs(0, 1, 0, 0, 0)}, {received(0, 1, 0)}, {obs(0, 1, api.ObsIrq, 31, 0)}} {
			for _, to := range []uint64{0, 10000, ever} {
				wantCheck(t, g, to, api.ErrAuditConfig, 0, l...)
			}
			wantNoCount(t, g, api.ErrAuditConfig, l...)
		}
	}
}

// TestCountOfAnything: any numbers.
func TestCountOfAnything(t *testing.T) {
	random := rand.New(rand.NewSource(2609))
	well := 0
	for range 5000 {
		var l []api.Obs
		e := api.OK
		for range random.Intn(10) {
			o := anything(random)
			if o.Cell < 1 || o.Cell > 4 {
				if random.Intn(2) == 0 {
					continue
				}
				e = api.ErrAuditCell
			}
			l = append(l, o)
		}
		if e != api.OK {
			wantNoCount(t, four(), e, l...)
			continue
		}
		wantCounted(t, four(), l)
		well++
	}
	if well < 1000 {
		t.Errorf("%d were counted: the test asks too little", well)
	}
}
