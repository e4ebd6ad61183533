package valid

import (
	"slices"
	"strings"

	"cloister/api"
	"cloister/tables"
)

// instrBytes: where an instruction may stand is a multiple of it.
const instrBytes = 4

func wrongCell(g api.Config) (int, bool) {
	if len(g.Cells) < 1 || len(g.Cells) > api.MaxCells {
		return 0, true
	}
	return firstCell(g, func(number int, c api.Cell) bool {
		ahead := g.Cells[:number-1]
		taken := slices.ContainsFunc(ahead, func(o api.Cell) bool { return o.Name == c.Name })
		return taken || !isName(c.Name) || len(c.Ranges) < 1 || len(c.Ranges) > api.MaxRanges
	})
}

func isName(s string) bool {
	return len(s) >= 1 && len(s) <= api.MaxName && !strings.ContainsFunc(s, isForeign)
}

// isForeign tells whether a name may not have that sign.
func isForeign(r rune) bool {
	small, great, digit := r >= 'a' && r <= 'z', r >= 'A' && r <= 'Z', r >= '0' && r <= '9'
	return !small && !great && !digit
}

func wrongRange(g api.Config) (int, bool) {
	seen := pages{}
	return firstCell(g, func(number int, c api.Cell) bool {
		wrong := slices.ContainsFunc(c.Ranges, func(r api.Range) bool {
			return tables.Need(r) == 0 || !isMemory(g, r.Physical, r.Pages) || seen.meet(number, r.Virtual, r.Pages)
		})
		return wrong || !canBegin(c)
	})
}

// canBegin tells whether a cell's entry is a place from which it may fetch.
func canBegin(c api.Cell) bool {
	return c.Entry%instrBytes == 0 && slices.ContainsFunc(c.Ranges, func(r api.Range) bool {
		inside := c.Entry >= r.Virtual && int((c.Entry-r.Virtual)/api.PageSize) < r.Pages
		return inside && r.Perm&api.Exec != 0
	})
}

func wrongLine(g api.Config) (int, bool) {
	var routed [api.Lines]bool
	return firstCell(g, func(_ int, c api.Cell) bool {
		return slices.ContainsFunc(c.Lines, func(line int) bool {
			if line < 0 || line >= api.Lines || routed[line] {
				return true
			}
			routed[line] = true
			return false
		})
	})
}
