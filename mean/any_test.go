package mean_test

import (
	"fmt"
	"math/rand"
	"slices"
	"testing"

	"cloister/api"
)

// maker makes trees that may be.
type maker struct {
	random  *rand.Rand
	endless bool // there may be a forever, and loops with great bounds
	arrays  []string
	takes   map[string]int // how many values each function takes
	callees []string       // functions that may be called
	sight   []string
	names   int
}

func (m *maker) chance(n int) bool { return m.random.Intn(n) == 0 }

func (m *maker) oneOf(all []string) string { return all[m.random.Intn(len(all))] }

func (m *maker) newName() string {
	m.names++
	return fmt.Sprint(m.oneOf([]string{"a", "x_", "If", "sayit", "_"}), m.names)
}

func (m *maker) number() int32 {
	switch m.random.Intn(4) {
	case 0:
		return int32(edges[m.random.Intn(len(edges))])
	case 1:
		return int32(m.random.Uint32() >> m.random.Intn(32))
	}
	return int32(m.random.Intn(4))
}

func (m *maker) program() api.Term {
	t := api.Term{Kind: api.TermProgram}
	m.takes = map[string]int{}
	for range m.random.Intn(4) {
		name := m.newName()
		m.arrays = append(m.arrays, name)
		t.Kids = append(t.Kids, api.Term{Kind: api.TermArray, Text: name, N: []int32{1, 2, 3, 5, 512}[m.random.Intn(5)]})
	}
	n := 1 + m.random.Intn(5)
	names := []string{"main"}
	for range n - 1 {
		names = append(names, m.newName())
		m.takes[names[len(names)-1]] = m.random.Intn(4)
	}
	functions := make([]api.Term, n)
	// one calls those that stand ahead of it in an order of its own
	for _, i := range m.random.Perm(n - 1) {
		functions[i] = m.function(names[i+1])
		m.callees = append(m.callees, names[i+1])
	}
	functions[n-1] = m.function("main")
	t.Kids = append(t.Kids, functions...)
	return t
}

func (m *maker) function(name string) api.Term {
	t := api.Term{Kind: api.TermFunction, Text: name}
	m.sight = nil
	for range m.takes[name] {
		p := m.newName()
		m.sight = append(m.sight, p)
		t.Kids = append(t.Kids, api.Term{Kind: api.TermName, Text: p})
	}
	block := m.block(3)
	if name == "main" && m.endless && m.chance(3) {
		block.Kids = append(block.Kids, api.Term{Kind: api.TermForever, Kids: []api.Term{m.block(2)}})
	}
	t.Kids = append(t.Kids, block)
	return t
}

func (m *maker) block(depth int) api.Term {
	t := api.Term{Kind: api.TermBlock}
	sight := slices.Clone(m.sight)
	for range m.random.Intn(5) {
		t.Kids = append(t.Kids, m.statement(depth))
	}
	m.sight = sight
	return t
}

func (m *maker) statement(depth int) api.Term {
	switch n := m.random.Intn(16); {
	case n < 3:
		name := m.newName()
		t := api.Term{Kind: api.TermVar, Text: name, Kids: []api.Term{m.value(3)}}
		m.sight = append(m.sight, name)
		return t
	case n < 6 && len(m.sight) > 0:
		return api.Term{Kind: api.TermSet, Text: m.oneOf(m.sight), Kids: []api.Term{m.value(3)}}
	case n < 8 && len(m.arrays) > 0:
		return api.Term{Kind: api.TermPut, Text: m.oneOf(m.arrays), Kids: []api.Term{m.value(2), m.value(2)}}
	case n < 10 && depth > 0:
		t := api.Term{Kind: api.TermIf, Kids: []api.Term{m.value(2), m.block(depth - 1)}}
		if m.chance(2) {
			t.Kids = append(t.Kids, m.block(depth-1))
		}
		return t
	case n < 12 && depth > 0:
		return m.while(depth)
	case n < 13 && m.chance(2):
		return api.Term{Kind: api.TermReturn, Kids: []api.Term{m.value(3)}}
	}
	return api.Term{Kind: api.TermDo, Kids: []api.Term{m.value(3)}}
}

func (m *maker) while(depth int) api.Term {
	t := api.Term{Kind: api.TermWhile, N: 1 + m.random.Int31n(4)}
	if m.endless && m.chance(3) {
		t.N = []int32{65536, 1 + m.random.Int31n(65536)}[m.random.Intn(2)]
	}
	t.Kids = []api.Term{m.value(2), m.block(depth - 1)}
	return t
}

func (m *maker) value(depth int) api.Term {
	switch n := m.random.Intn(14); {
	case n < 4 && depth > 0:
		sign := m.oneOf(binarySigns)
		if m.chance(4) {
			sign = m.oneOf([]string{"&&", "||", "<", ">="})
		}
		return api.Term{Kind: api.TermBinary, Text: sign, Kids: []api.Term{m.value(depth - 1), m.value(depth - 1)}}
	case n < 5 && depth > 0:
		return api.Term{Kind: api.TermUnary, Text: m.oneOf(unarySigns), Kids: []api.Term{m.value(depth - 1)}}
	case n < 7 && len(m.arrays) > 0 && depth > 0:
		return api.Term{Kind: api.TermAt, Text: m.oneOf(m.arrays), Kids: []api.Term{m.value(depth - 1)}}
	case n < 9 && depth > 0:
		return m.call(depth)
	case n < 11 && len(m.sight) > 0:
		return api.Term{Kind: api.TermName, Text: m.oneOf(m.sight)}
	}
	return api.Term{Kind: api.TermNumber, N: m.number()}
}

var builtIns = []string{"say", "say", "say", "who", "left", "clock", "wait", "mask", "pending", "write", "send", "read", "recv", "told", "told"}

func (m *maker) call(depth int) api.Term {
	name, n := m.oneOf(builtIns), 0
	if m.chance(20) {
		name = "halt"
	}
	switch name {
	case "say", "mask", "read", "recv":
		n = 1
	case "write", "send":
		n = 2
	}
	if len(m.callees) > 0 && m.chance(2) {
		name = m.oneOf(m.callees)
		n = m.takes[name]
	}
	t := api.Term{Kind: api.TermCall, Text: name}
	for range n {
		t.Kids = append(t.Kids, m.value(depth-1))
	}
	return t
}

func anyTree(random *rand.Rand, endless bool) api.Term {
	m := &maker{random: random, endless: endless}
	return m.program()
}

func anyAnswers(random *rand.Rand) []uint32 {
	var l []uint32
	for range random.Intn(60) {
		n := edges[random.Intn(len(edges))]
		if random.Intn(2) == 0 {
			n = []uint32{0, 1, 1, 3, 4, 8, 256, 257, random.Uint32()}[random.Intn(9)]
		}
		l = append(l, n)
	}
	return l
}

// TestAnyRun: any program, with any answers and any fuel, does what the model does.
func TestAnyRun(t *testing.T) {
	t.Parallel()
	random := rand.New(rand.NewSource(2802))
	ends, done := map[api.Errno]int{}, map[string]int{}
	for range 12000 {
		x := anyTree(random, random.Intn(2) == 0)
		got, all := holdRun(t, x, []int{random.Intn(30), random.Intn(300), random.Intn(3000)}[random.Intn(3)], anyAnswers(random))
		ends[got.e]++
		for what, n := range all {
			done[what] += min(n, 3)
		}
	}
	for _, e := range []api.Errno{api.OK, api.ErrMeanFuel} {
		if ends[e] < 1500 {
			t.Errorf("only %d come to %d", ends[e], e)
		}
	}
	wanted := append([]string{"message", "function", "put in", "at in", "else", "all rounds", "round", "halt", "u-", "u~", "u!"}, binarySigns...)
	for k := api.TermVar; k <= api.TermBinary; k++ {
		wanted = append(wanted, fmt.Sprint("kind ", k))
	}
	for _, what := range append(wanted, builtIns...) {
		if done[what] < 300 {
			t.Errorf("only %d times: %s", done[what], what)
		}
	}
}
