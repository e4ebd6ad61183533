package valid_test

import (
	"math/big"
	"regexp"

	"cloister/api"
)

// fault is what is wrong, and where.
type fault struct {
	wrong api.Errno
	place int
}

// modelCheck goes over the chapter's list and tells the first fault. It asks
// for ranges that overlap by their ends, adds numbers that do not wrap, and
// knows nothing of the layers below.
func modelCheck(g api.Config) fault {
	for i, places := range []func(g api.Config) []int{
		modelMachine, modelCells, modelRanges, modelMeets, modelLines, modelSamples, modelQueues, modelRoom, modelWindows, modelBudgets,
	} {
		if all := places(g); len(all) > 0 {
			return fault{api.Errno(140 + i), all[0]}
		}
	}
	return fault{}
}

// where is in which places something is wrong.
func where(n int, wrong func(i int) bool) []int {
	var all []int
	for i := range n {
		if wrong(i) {
			all = append(all, i)
		}
	}
	return all
}

func cellsWhere(g api.Config, wrong func(i int) bool) []int {
	all := where(len(g.Cells), wrong)
	for i := range all {
		all[i]++
	}
	return all
}

func isFrom(n, least, most int) bool { return least <= n && n <= most }

func isPower(n int) bool {
	for p := 1; p <= 1<<16; p *= 2 {
		if p == n {
			return true
		}
	}
	return false
}

func shapeMayBe(s api.Shape) bool {
	return isPower(s.Sets) && s.Sets <= 256 && isFrom(s.Ways, 1, 8) && isPower(s.Line) && isFrom(s.Line, 16, 256)
}

// end is the first byte behind so many pages.
func end(from uint32, pages int) *big.Int {
	n := new(big.Int).Mul(big.NewInt(int64(pages)), big.NewInt(4096))
	return n.Add(n, big.NewInt(int64(from)))
}

func isBeyond(from uint32, pages int, bytes int64) bool {
	return end(from, pages).Cmp(big.NewInt(bytes)) > 0
}

func modelMachine(g api.Config) []int {
	if !isFrom(g.Pages, 1, 4096) || g.OwnBase%4096 != 0 || g.OwnPages < 1 || isBeyond(g.OwnBase, g.OwnPages, int64(g.Pages)*4096) ||
		!shapeMayBe(g.Shape) || !isFrom(g.Slots, 1, 64) || g.Major < 1 || g.Major > 1099511627776 {
		return []int{0}
	}
	return nil
}

var aName = regexp.MustCompile(`\A[a-zA-Z0-9]{1,16}\z`)

func modelCells(g api.Config) []int {
	if !isFrom(len(g.Cells), 1, 8) {
		return []int{0}
	}
	return cellsWhere(g, func(i int) bool {
		c := g.Cells[i]
		same := where(i, func(j int) bool { return g.Cells[j].Name == c.Name })
		return !aName.MatchString(c.Name) || len(same) > 0 || !isFrom(len(c.Ranges), 1, 8)
	})
}

func rangeMayBe(r api.Range) bool {
	perms := map[api.Perm]bool{1: true, 3: true, 4: true, 5: true, 7: true}
	return r.Virtual%4096 == 0 && r.Physical%4096 == 0 && r.Pages >= 1 && perms[r.Perm] &&
		!isBeyond(r.Virtual, r.Pages, 1<<32) && !isBeyond(r.Physical, r.Pages, 4096*4096)
}

// overlap tells whether two places have a page in common.
func overlap(a uint32, pages int, b uint32, more int) bool {
	return big.NewInt(int64(a)).Cmp(end(b, more)) < 0 && big.NewInt(int64(b)).Cmp(end(a, pages)) < 0
}

func modelRanges(g api.Config) []int {
	return cellsWhere(g, func(i int) bool {
		c := g.Cells[i]
		entry := false
		for j, r := range c.Ranges {
			twice := where(j, func(k int) bool {
				return overlap(r.Virtual, r.Pages, c.Ranges[k].Virtual, c.Ranges[k].Pages)
			})
			if !rangeMayBe(r) || isBeyond(r.Physical, r.Pages, int64(g.Pages)*4096) || len(twice) > 0 {
				return true
			}
			entry = entry || r.Perm >= 4 && c.Entry >= r.Virtual && !isBeyond(c.Entry+1, 0, end(r.Virtual, r.Pages).Int64())
		}
		return c.Entry%4 != 0 || !entry
	})
}

func modelMeets(g api.Config) []int {
	ahead := []api.Range{{Physical: g.OwnBase, Pages: g.OwnPages}}
	return cellsWhere(g, func(i int) bool {
		met := false
		for _, r := range g.Cells[i].Ranges {
			for _, a := range ahead {
				met = met || overlap(r.Physical, r.Pages, a.Physical, a.Pages)
			}
			ahead = append(ahead, r)
		}
		return met
	})
}

func modelLines(g api.Config) []int {
	owner := map[int]int{}
	return cellsWhere(g, func(i int) bool {
		wrong := false
		for _, line := range g.Cells[i].Lines {
			wrong = wrong || !isFrom(line, 0, 31) || owner[line] > 0
			owner[line]++
		}
		return wrong
	})
}

// tooMany adds the place of the first thing too many.
func tooMany(places []int, n, most int) []int {
	if n > most && (len(places) == 0 || places[0] > most) {
		return []int{most}
	}
	return places
}

func sizeMayBe(n int) bool { return isFrom(n, 4, 256) && n%4 == 0 }

func modelSamples(g api.Config) []int {
	return tooMany(where(len(g.Samples), func(i int) bool {
		s := g.Samples[i]
		count := map[int]int{s.Writer: 1}
		for _, r := range s.Readers {
			count[r]++
		}
		for cell, n := range count {
			if !isFrom(cell, 1, len(g.Cells)) || n > 1 {
				return true
			}
		}
		return !sizeMayBe(s.Size) || len(s.Readers) == 0
	}), len(g.Samples), 16)
}

func modelQueues(g api.Config) []int {
	return tooMany(where(len(g.Queues), func(i int) bool {
		q := g.Queues[i]
		return !isFrom(q.Writer, 1, len(g.Cells)) || !isFrom(q.Reader, 1, len(g.Cells)) || q.Writer == q.Reader ||
			!sizeMayBe(q.Size) || !isFrom(q.Depth, 1, 32) || !isFrom(q.Quota, 1, 16)
	}), len(g.Queues), 16)
}

func modelRoom(g api.Config) []int {
	if modelNeed(g) > g.OwnPages {
		return []int{0}
	}
	return nil
}

func modelWindows(g api.Config) []int {
	if len(g.Windows) == 0 {
		return []int{0}
	}
	long := func(n uint64) *big.Int { return new(big.Int).SetUint64(n) }
	last := func(i int) *big.Int { return new(big.Int).Add(long(g.Windows[i].Start), long(g.Windows[i].Length)) }
	return tooMany(where(len(g.Windows), func(i int) bool {
		w := g.Windows[i]
		early := i > 0 && long(w.Start).Cmp(last(i-1)) < 0
		return early || !isFrom(w.Cell, 1, len(g.Cells)) || w.Length == 0 || last(i).Cmp(long(g.Major)) > 0
	}), len(g.Windows), 32)
}

func modelBudgets(g api.Config) []int {
	return where(len(g.Windows), func(i int) bool {
		w := g.Windows[i]
		return w.Length < modelStep(g, w.Cell)+modelSwitch(g, w.Cell)
	})
}

// clipped is a number, or the bound that it passes.
func clipped(n, most int) int {
	if n < 0 {
		return 0
	}
	if n > most {
		return most
	}
	return n
}

func modelStep(g api.Config, cell int) uint64 {
	if !isFrom(cell, 1, len(g.Cells)) {
		return 0
	}
	greatest := 0
	port := func(size int, cells ...int) {
		for _, c := range cells {
			if c == cell && clipped(size, 256) > greatest {
				greatest = clipped(size, 256)
			}
		}
	}
	for _, s := range g.Samples {
		port(s.Size, append([]int{s.Writer}, s.Readers...)...)
	}
	for _, q := range g.Queues {
		port(q.Size, q.Writer, q.Reader)
	}
	n := greatest / 4
	if 10+3*20*n < 3*20 {
		return 1 + 3*20 + 3*20
	}
	return uint64(1 + 3*20 + 10 + 3*20*n)
}

func modelSwitch(g api.Config, cell int) uint64 {
	if !isFrom(cell, 1, len(g.Cells)) {
		return 0
	}
	ticks := 40 + 8
	if shapeMayBe(g.Shape) {
		ticks += g.Shape.Sets + 8*g.Shape.Sets*g.Shape.Ways
	}
	for _, s := range g.Samples {
		if s.Writer == cell {
			ticks += 2 * (clipped(s.Size, 256) / 4)
		}
	}
	for _, q := range g.Queues {
		many := clipped(q.Quota, 16)
		if q.Flow {
			many = clipped(q.Depth, 32)
		}
		if q.Writer == cell {
			ticks += 2 * many * (clipped(q.Size, 256) / 4)
		}
	}
	return uint64(ticks)
}

func modelNeed(g api.Config) int {
	pages := 0
	for _, c := range g.Cells {
		pages += modelTables(c.Ranges)
	}
	bytes := 0
	for _, s := range g.Samples {
		bytes += clipped(s.Size, 256) + clipped(s.Size, 256)
	}
	for _, q := range g.Queues {
		many := clipped(q.Depth, 32) + clipped(q.Quota, 16)
		if q.Flow {
			many = 2 * clipped(q.Depth, 32)
		}
		bytes += many * clipped(q.Size, 256)
	}
	for ; bytes > 0; bytes -= 4096 {
		pages++
	}
	return pages
}

func modelTables(l []api.Range) int {
	firsts := map[uint32]bool{}
	for _, r := range l {
		if !rangeMayBe(r) {
			return 0
		}
		for i := range uint32(r.Pages) {
			firsts[(r.Virtual+4096*i)>>22] = true
		}
	}
	return 1 + len(firsts)
}
