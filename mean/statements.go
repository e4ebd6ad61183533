package mean

import "cloister/api"

// kinds: as many places, and one for none.
const kinds = api.TermBinary + 1

// statement is what is done for one.
type statement func(*call, api.Term)

func allStatements() [kinds]statement {
	return [kinds]statement{
		api.TermVar:     (*call).set,
		api.TermSet:     (*call).set,
		api.TermPut:     (*call).put,
		api.TermIf:      (*call).choose,
		api.TermWhile:   (*call).while,
		api.TermForever: (*call).forever,
		api.TermReturn:  (*call).giveBack,
		api.TermDo:      (*call).do,
	}
}

func (c *call) block(t api.Term) {
	for _, k := range t.Kids {
		c.step()
		c.statements[k.Kind](c, k)
	}
}

func (c *call) set(t api.Term) { c.variables[t.Text] = c.value(t.Kids[0]) }

func (c *call) put(t api.Term) {
	place, n := c.value(t.Kids[0]), c.value(t.Kids[1])
	if a := c.arrays[t.Text]; isIn(a, place) {
		a[place] = n
	}
}

func isIn(a []uint32, place uint32) bool { return uint64(place) < uint64(len(a)) }

func (c *call) choose(t api.Term) {
	if c.value(t.Kids[0]) != 0 {
		c.block(t.Kids[1])
	} else if len(t.Kids) > 2 {
		c.block(t.Kids[2])
	}
}

func (c *call) while(t api.Term) {
	for range t.N {
		if c.value(t.Kids[0]) == 0 {
			return
		}
		c.round(t.Kids[1])
	}
}

// forever ends with the fuel, or with the program.
func (c *call) forever(t api.Term) {
	for {
		c.round(t.Kids[0])
	}
}

func (c *call) round(block api.Term) {
	c.step()
	c.block(block)
}

func (c *call) giveBack(t api.Term) { panic(returned{c.value(t.Kids[0])}) }

func (c *call) do(t api.Term) { c.value(t.Kids[0]) }
