package valid

import (
	"cloister/api"
	"cloister/cache"
)

func wrongMachine(g api.Config) (int, bool) {
	right := g.Pages >= 1 && g.Pages <= api.MaxPages &&
		g.OwnBase%api.PageSize == 0 && g.OwnPages >= 1 && isMemory(g, g.OwnBase, g.OwnPages) &&
		mayBe(g.Shape) &&
		g.Slots >= 1 && g.Slots <= api.MaxSlots &&
		g.Major >= 1 && g.Major <= api.MaxMajor
	return 0, !right
}

// isMemory tells whether memory has so many pages from an address on. (How many
// are left is asked, since a sum with any number might wrap.)
func isMemory(g api.Config, from uint32, pages int) bool {
	return pages <= g.Pages-int(from/api.PageSize)
}

// mayBe tells whether a cache may have that shape: each access of one takes
// some time.
func mayBe(s api.Shape) bool {
	access, _ := cache.Worst(s)
	return access > 0
}

func noRoom(g api.Config) (int, bool) { return 0, Need(g) > g.OwnPages }
