package cache

import (
	"math/bits"

	"cloister/api"
)

// mayBe tells whether a cache may have that shape.
func mayBe(s api.Shape) bool {
	return isPower(s.Sets, 1, api.MaxSets) && s.Ways >= 1 && s.Ways <= api.MaxWays && isPower(s.Line, api.MinLine, api.MaxLine)
}

// isPower tells whether a number is a power of two, from this one to that.
func isPower(n, least, most int) bool {
	return n >= least && n <= most && bits.OnesCount(uint(n)) == 1
}

// place is where a line lies: it has that tag in that set.
type place struct{ set, tag uint32 }

// placeOf is where the line of an address lies.
func placeOf(s api.Shape, addr uint32) place {
	number, sets := addr/uint32(s.Line), uint32(s.Sets)
	return place{set: number % sets, tag: number / sets}
}

// canHold tells whether an address of 32 bits lies in such a line. (In 64 bits
// the line's number never wraps.)
func canHold(s api.Shape, l api.Line) bool {
	sets := uint64(s.Sets)
	return uint64(l.Set) < sets && uint64(l.Tag)*sets+uint64(l.Set) < 1<<32/uint64(s.Line)
}

// touch is what an access comes to: a hit, a miss, or a miss for which a line
// is written back.
func touch(hit, back bool) api.Touch {
	t := api.Touch{Hit: hit, Back: back, Cycles: api.CostMiss}
	if hit {
		t.Cycles = api.CostHit
	}
	if back {
		t.Cycles += api.CostBack
	}
	return t
}

// flushCycles is what a flush takes, where so many lines are dirty.
func flushCycles(s api.Shape, dirty int) int {
	return api.CostSet*s.Sets + api.CostBack*dirty
}

// Worst is the most cycles of an access, and of a flush.
func Worst(s api.Shape) (int, int) {
	if !mayBe(s) {
		return 0, 0
	}
	return touch(false, true).Cycles, flushCycles(s, s.Sets*s.Ways)
}
