package deck

import "cloister/api"

// configMayBe: a deck can say it.
func configMayBe(g api.Config) bool {
	return numbersMayBe(g.Pages, g.OwnPages, g.Shape.Sets, g.Shape.Ways, g.Shape.Line, g.Slots) &&
		namesMayBe(g.Cells) && cellsMayBe(g.Cells) && windowsMayBe(g) && samplesMayBe(g) && queuesMayBe(g)
}

func loadsMayBe(g api.Config, all []api.Load) bool {
	for _, l := range all {
		if !areCells(g, l.Cell) {
			return false
		}
	}
	return true
}

func numbersMayBe(all ...int) bool {
	for _, n := range all {
		if n < 0 || uint64(n) > mostNumber {
			return false
		}
	}
	return true
}

func areCells(g api.Config, all ...int) bool {
	for _, n := range all {
		if n < 1 || n > len(g.Cells) {
			return false
		}
	}
	return true
}

func namesMayBe(cells []api.Cell) bool {
	numbers := map[string]int{}
	for n, c := range cells {
		if !isName(c.Name) {
			return false
		}
		if _, there := numbers[c.Name]; there {
			return false
		}
		numbers[c.Name] = n
	}
	return true
}

func cellsMayBe(cells []api.Cell) bool {
	for _, c := range cells {
		if !rangesMayBe(c.Ranges) || !numbersMayBe(c.Lines...) {
			return false
		}
	}
	return true
}

func rangesMayBe(ranges []api.Range) bool {
	for _, r := range ranges {
		if int(r.Perm) >= len(permTexts) || !numbersMayBe(r.Pages) {
			return false
		}
	}
	return true
}

func windowsMayBe(g api.Config) bool {
	for _, w := range g.Windows {
		if !areCells(g, w.Cell) {
			return false
		}
	}
	return true
}

func samplesMayBe(g api.Config) bool {
	for _, s := range g.Samples {
		if !areCells(g, s.Writer) || !areCells(g, s.Readers...) || !numbersMayBe(s.Size) {
			return false
		}
	}
	return true
}

func queuesMayBe(g api.Config) bool {
	for _, q := range g.Queues {
		if !areCells(g, q.Writer, q.Reader) || !numbersMayBe(q.Size, q.Depth, q.Quota) {
			return false
		}
	}
	return true
}
