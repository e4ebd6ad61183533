package mean

import "cloister/api"

// value is what is reckoned for one.
type value func(*call, api.Term) uint32

func allValues() [kinds]value {
	return [kinds]value{
		api.TermNumber: (*call).number,
		api.TermName:   (*call).variable,
		api.TermAt:     (*call).at,
		api.TermCall:   (*call).called,
		api.TermUnary:  (*call).ofOne,
		api.TermBinary: (*call).ofTwo,
	}
}

func (c *call) value(t api.Term) uint32 {
	c.step()
	return c.values[t.Kind](c, t)
}

func (c *call) number(t api.Term) uint32 { return uint32(t.N) }

func (c *call) variable(t api.Term) uint32 { return c.variables[t.Text] }

func (c *call) at(t api.Term) uint32 {
	place, a := c.value(t.Kids[0]), c.arrays[t.Text]
	if !isIn(a, place) {
		return 0
	}
	return a[place]
}

func (c *call) called(t api.Term) uint32 {
	numbers := make([]uint32, len(t.Kids))
	for i, k := range t.Kids {
		numbers[i] = c.value(k)
	}
	if _, is := c.functions[t.Text]; is {
		return c.function(t.Text, numbers)
	}
	return c.builtIn(t.Text, numbers)
}

func (c *call) ofOne(t api.Term) uint32 { return c.unary[t.Text](c.value(t.Kids[0])) }

// ofTwo: a sign that stands in no table may leave the right value alone.
func (c *call) ofTwo(t api.Term) uint32 {
	left := c.value(t.Kids[0])
	sign, is := c.binary[t.Text]
	if is {
		return sign(left, c.value(t.Kids[1]))
	}
	isTrue := left != 0
	if isTrue == (t.Text == or) {
		return truth(isTrue)
	}
	return truth(c.value(t.Kids[1]) != 0)
}
