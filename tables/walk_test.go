package tables_test

import (
	"math"
	"slices"
	"testing"

	"cloister/api"
	"cloister/tables"
)

var someAccesses = append([]api.Access{0, 4, 5, 8, -1, -2, -3, 7, 257, 1<<32 + 1, 1<<32 + 2, math.MaxInt, math.MinInt, math.MinInt + 1}, accesses...)

// lets is which bit of a Perm belongs to an access.
func lets(p api.Perm, a api.Access) bool {
	switch a {
	case api.AccessRead:
		return p&1 != 0
	case api.AccessWrite:
		return p&2 != 0
	case api.AccessExec:
		return p&4 != 0
	}
	return false
}

// TestWalkPerms: each Perm with each access, and with what is none.
func TestWalkPerms(t *testing.T) {
	m, _, s := build(t, 2)
	for i, p := range perms {
		virtual := uint32(i) * pageSize
		wantMapped(t, s, one(virtual, 20*pageSize, p))
		steps := []api.WalkStep{{At: s.Root(), Word: tableWord(9)}, {At: 9*pageSize + 4*uint32(i), Word: pageWord(p, 20)}}
		for _, a := range someAccesses {
			at, f := uint32(20*pageSize+5), api.FaultNone
			if !lets(p, a) {
				at, f = 0, api.FaultDenied
			}
			wantWalk(t, m, s.Root(), virtual+5, a, at, f, steps...)
		}
	}
}

// TestWalkOffsets: each byte of a page, and those next to it.
func TestWalkOffsets(t *testing.T) {
	m, _, s := build(t, 2)
	virtual, physical := uint32(3*bigPage+7*pageSize), uint32(33*pageSize)
	wantMapped(t, s, one(virtual, physical, api.Read))
	first := api.WalkStep{At: s.Root() + 4*3, Word: tableWord(9)}
	for i := range uint32(pageSize) {
		wantWalk(t, m, s.Root(), virtual+i, api.AccessRead, physical+i, api.FaultNone, first, api.WalkStep{At: 9*pageSize + 4*7, Word: pageWord(1, 33)})
	}
	wantWalk(t, m, s.Root(), virtual-1, api.AccessRead, 0, api.FaultUnmapped, first, api.WalkStep{At: 9*pageSize + 4*6})
	wantWalk(t, m, s.Root(), virtual+pageSize, api.AccessRead, 0, api.FaultUnmapped, first, api.WalkStep{At: 9*pageSize + 4*8})
}

// TestWalkIndexes: each first and each second index, at the words where they
// stand.
func TestWalkIndexes(t *testing.T) {
	m := newMemory(t, 8)
	for i := range uint32(perTable) {
		m.Fill(0, 8*pageSize, 0)
		setWord(t, m, 2*pageSize+4*i, tableWord(5))
		setWord(t, m, 5*pageSize+4*(perTable-1-i), pageWord(5, 7))
		steps := []api.WalkStep{{At: 2*pageSize + 4*i, Word: tableWord(5)}, {At: 5*pageSize + 4*(perTable-1-i), Word: pageWord(5, 7)}}
		virtual := i<<22 | (perTable-1-i)<<12
		wantWalk(t, m, 2*pageSize, virtual|0xabc, api.AccessExec, 7*pageSize+0xabc, api.FaultNone, steps...)
		wantWalk(t, m, 2*pageSize, virtual|0xfff, api.AccessWrite, 0, api.FaultDenied, steps...)
		wantWalk(t, m, 2*pageSize, virtual^1<<22, api.AccessRead, 0, api.FaultUnmapped, api.WalkStep{At: 2*pageSize + 4*(i^1)})
		wantWalk(t, m, 2*pageSize, virtual^1<<12, api.AccessRead, 0, api.FaultUnmapped, steps[0], api.WalkStep{At: steps[1].At ^ 4})
	}
}

// malformed words, of all kinds of being so.
var malformed = []uint32{1, 2, 4, 5, 8, 0xd, 0x10, 0x13, 0x15, 0x19, 0x1f, 0x23, 0x31, 0x43, 0x803, 0x811, 0x1000, 0x5002, 0x80000000, 0x01000003, 0x01000011, 0xfffff003, 0xfffff011, 1<<32 - 1}

// TestWalkRootWords: each kind of word at the first level, with each access.
func TestWalkRootWords(t *testing.T) {
	m := newMemory(t, 8)
	check := func(w uint32, f api.Fault) {
		t.Helper()
		setWord(t, m, 2*pageSize+4, w)
		for _, a := range someAccesses {
			wantWalk(t, m, 2*pageSize, bigPage+4, a, 0, f, api.WalkStep{At: 2*pageSize + 4, Word: w})
		}
	}
	check(0, api.FaultUnmapped)
	for _, w := range malformed {
		check(w, api.FaultMalformed)
	}
	for _, p := range perms {
		for _, frame := range []uint32{0, 5, 7, 8, 4095} {
			check(pageWord(p, frame), api.FaultMalformed)
		}
	}
	for _, frame := range []uint32{8, 9, 16, 4094, 4095} { // tables outside the memory
		check(tableWord(frame), api.FaultOutside)
	}
}

// TestWalkTableWords: each kind of word at the second level.
func TestWalkTableWords(t *testing.T) {
	m := newMemory(t, 8)
	for _, frame := range []uint32{0, 5, 7} { // the memory's last page too
		setWord(t, m, 2*pageSize+4, tableWord(frame))
		at := frame*pageSize + 4*3
		check := func(w uint32, f api.Fault) {
			t.Helper()
			setWord(t, m, at, w)
			for _, a := range someAccesses {
				wantWalk(t, m, 2*pageSize, bigPage+3*pageSize+4, a, 0, f, api.WalkStep{At: 2*pageSize + 4, Word: tableWord(frame)}, api.WalkStep{At: at, Word: w})
			}
		}
		check(0, api.FaultUnmapped)
		for _, w := range malformed {
			check(w, api.FaultMalformed)
		}
		for _, other := range []uint32{0, 2, 5, 8, 4095} {
			check(tableWord(other), api.FaultMalformed)
		}
	}
}

// TestWalkPageOutside: a page outside the memory: who may not do this there is
// told that.
func TestWalkPageOutside(t *testing.T) {
	m := newMemory(t, 8)
	setWord(t, m, 2*pageSize, tableWord(5))
	for _, p := range perms {
		for _, frame := range []uint32{0, 6, 7, 8, 9, 16, 4095} {
			setWord(t, m, 5*pageSize, pageWord(p, frame))
			for _, a := range someAccesses {
				at, f := frame*pageSize+9, api.FaultNone
				switch {
				case !lets(p, a):
					at, f = 0, api.FaultDenied
				case frame >= 8:
					at, f = 0, api.FaultOutside
				}
				wantWalk(t, m, 2*pageSize, 9, a, at, f, api.WalkStep{At: 2 * pageSize, Word: tableWord(5)}, api.WalkStep{At: 5 * pageSize, Word: pageWord(p, frame)})
			}
		}
	}
}

// TestWalkOfGreatest: frame 4095 lies in the greatest memory, as a table and
// as a page.
func TestWalkOfGreatest(t *testing.T) {
	m := newMemory(t, mostPages)
	setWord(t, m, 0, tableWord(4095))
	setWord(t, m, lastFrame, pageWord(1, 4095))
	wantWalk(t, m, 0, 0xfff, api.AccessRead, lastFrame+0xfff, api.FaultNone, api.WalkStep{Word: tableWord(4095)}, api.WalkStep{At: lastFrame, Word: pageWord(1, 4095)})
	setWord(t, m, lastFrame+4092, tableWord(0))
	wantWalk(t, m, lastFrame, 1<<32-1, api.AccessRead, 0, api.FaultUnmapped, api.WalkStep{At: lastFrame + 4092, Word: tableWord(0)}, api.WalkStep{At: 4092})
}

func TestWalkOfNoMemory(t *testing.T) {
	for _, root := range []uint32{0, 1, 4, pageSize, 1 << 24, lastPage, 1<<32 - 1} {
		for _, virtual := range []uint32{0, 1, bigPage, 1<<32 - 1} {
			for _, a := range someAccesses {
				wantWalk(t, nil, root, virtual, a, 0, api.FaultOutside)
			}
		}
	}
}

// TestWalkOfOddRoots: roots outside the memory, in part outside it, those that
// are no multiple of 4, and those that are no page's address.
func TestWalkOfOddRoots(t *testing.T) {
	m := newMemory(t, 8)
	for i := range uint32(8 * perTable) {
		setWord(t, m, 4*i, tableWord(i%8))
	}
	end := uint32(8 * pageSize)
	for _, root := range []uint32{end, end + 4, end + pageSize, 1 << 24, 1 << 31, lastPage, 1<<32 - 4092, 1<<32 - 4} {
		for _, first := range []uint32{0, 1, 2, 511, 1022, 1023} { // also where 32 bits would wrap into the memory
			wantWalk(t, m, root, first<<22, api.AccessRead, 0, api.FaultOutside)
		}
	}
	for _, root := range []uint32{1, 2, 3, 5, 4095, 2*pageSize + 2, end - 1, end - 2, end + 1, 1<<32 - 1, 1<<32 - 2, 1<<32 - 3} {
		for _, first := range []uint32{0, 1, 1023} {
			wantWalk(t, m, root, first<<22, api.AccessRead, 0, api.FaultOutside)
		}
	}
	for _, root := range []uint32{4, 8, 2048, pageSize + 4, 3*pageSize - 4, end - pageSize + 4, end - 2048, end - 8, end - 4} {
		for _, first := range []uint32{0, 1, 2, 511, 512, 1022, 1023} {
			at := root + 4*first
			if at >= end {
				wantWalk(t, m, root, first<<22, api.AccessRead, 0, api.FaultOutside)
				continue
			}
			table := at / 4 % 8
			second := api.WalkStep{At: table * pageSize, Word: tableWord(0)}
			wantWalk(t, m, root, first<<22, api.AccessRead, 0, api.FaultMalformed, api.WalkStep{At: at, Word: tableWord(table)}, second)
		}
	}
}

// TestWalkOddRootFinds: a root at no page's address, whose walk goes well.
func TestWalkOddRootFinds(t *testing.T) {
	m := newMemory(t, 8)
	root := uint32(3*pageSize - 8)
	setWord(t, m, root+4*9, tableWord(1))
	setWord(t, m, pageSize+4*2, pageWord(3, 6))
	wantWalk(t, m, root, 9*bigPage+2*pageSize+77, api.AccessWrite, 6*pageSize+77, api.FaultNone, api.WalkStep{At: root + 36, Word: tableWord(1)}, api.WalkStep{At: pageSize + 8, Word: pageWord(3, 6)})
}

// TestWalkReads: it changes nothing, and it tells what the memory has now.
func TestWalkReads(t *testing.T) {
	m, a, s := build(t, 3)
	wantMapped(t, s, one(0, 0, 1))
	before := m.Clone()
	for _, virtual := range []uint32{0, pageSize, bigPage, 1<<32 - 1} {
		for _, access := range someAccesses {
			tables.Walk(m, s.Root(), virtual, access)
		}
	}
	wantArena(t, "walked", a, 1, 2)
	if !before.Equal(m) {
		t.Error("a walk has written")
	}
	setWord(t, m, 9*pageSize, pageWord(1, 50))
	wantWalk(t, m, s.Root(), 0, api.AccessRead, 50*pageSize, api.FaultNone, api.WalkStep{At: s.Root(), Word: tableWord(9)}, api.WalkStep{At: 9 * pageSize, Word: pageWord(1, 50)})
}

// TestWalkSteps: they are new memory, and so is what stands behind them.
func TestWalkSteps(t *testing.T) {
	m, _, s := build(t, 3)
	wantMapped(t, s, one(0, 0, 1))
	for _, virtual := range []uint32{0, pageSize, bigPage} {
		_, a, _ := tables.Walk(m, s.Root(), virtual, api.AccessRead)
		want := slices.Clone(a)
		_, b, _ := tables.Walk(m, s.Root(), virtual, api.AccessRead)
		spoil(append(a, api.WalkStep{At: 1, Word: 1}))
		spoil(a)
		_, c, _ := tables.Walk(m, s.Root(), virtual, api.AccessRead)
		if !slices.Equal(b, want) || !slices.Equal(c, want) {
			t.Errorf("the steps of %x are %x, %x, want %x", virtual, b, c, want)
		}
	}
}
