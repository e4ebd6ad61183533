package rill_test

import (
	"fmt"
	"math/rand"
	"slices"
	"testing"

	"cloister/api"
	"cloister/rill"
)

// maker makes trees. Of all that it chooses, one in so many is wrong (0: none).
type maker struct {
	random  *rand.Rand
	wrong   int
	arrays  []string
	calls   map[string]int // how many values each function takes
	callees []string       // functions that may be called
	cyclic  bool
	sight   []string
	own     []string

	functions []string
}

func (m *maker) errs() bool { return m.wrong > 0 && m.random.Intn(m.wrong) == 0 }

var someNames = []string{"a", "b", "i", "x1", "_", "main", "f", "If", "sayit", "A_very_long_name"}

func (m *maker) anyName() string { return someNames[m.random.Intn(len(someNames))] }

func (m *maker) oneOf(all []string) string { return all[m.random.Intn(len(all))] }

// newName is one that nothing has.
func (m *maker) newName() string {
	if m.errs() {
		return m.anyName()
	}
	for {
		name := fmt.Sprint(m.anyName(), m.random.Intn(1000))
		if _, is := m.calls[name]; !is && len(name) <= 16 && !slices.Contains(m.arrays, name) && !slices.Contains(m.own, name) {
			return name
		}
	}
}

func (m *maker) number() int32 {
	if m.random.Intn(2) == 0 {
		return int32(m.random.Intn(4))
	}
	return int32(m.random.Uint32() >> m.random.Intn(32))
}

func (m *maker) between(most int32) int32 {
	if m.errs() {
		return []int32{0, -1, most + 1, -1 << 31, 1<<31 - 1}[m.random.Intn(5)]
	}
	return []int32{1, most, 1 + m.random.Int31n(most)}[m.random.Intn(3)]
}

func (m *maker) program() api.Term {
	t := api.Term{Kind: api.TermProgram}
	m.calls = map[string]int{}
	for range m.random.Intn(4) {
		name := m.newName()
		m.arrays = append(m.arrays, name)
		t.Kids = append(t.Kids, api.Term{Kind: api.TermArray, Text: name, N: m.between(512)})
	}
	n := 1 + m.random.Intn(4)
	names := []string{"main"}
	for range n - 1 {
		names = append(names, m.newName())
		m.calls[names[len(names)-1]] = m.random.Intn(4)
	}
	m.functions = append(names[1:], "nobody")
	m.calls["main"] = 0
	if m.errs() {
		m.calls["main"] = 1
	}
	// A function calls those that stand ahead of it in an order of its own.
	order := m.random.Perm(n - 1)
	functions := make([]api.Term, n)
	for _, i := range order {
		functions[i] = m.function(names[i+1], false)
		m.callees = append(m.callees, names[i+1])
	}
	functions[n-1] = m.function("main", true)
	if m.errs() {
		m.random.Shuffle(n, func(i, j int) { functions[i], functions[j] = functions[j], functions[i] })
	}
	t.Kids = append(t.Kids, functions...)
	return t
}

func (m *maker) function(name string, last bool) api.Term {
	t := api.Term{Kind: api.TermFunction, Text: name}
	m.sight, m.own = nil, nil
	for range m.calls[name] {
		p := m.newName()
		m.sight, m.own = append(m.sight, p), append(m.own, p)
		t.Kids = append(t.Kids, api.Term{Kind: api.TermName, Text: p})
	}
	block := m.block(3)
	if last && m.random.Intn(3) == 0 || m.errs() {
		block.Kids = append(block.Kids, api.Term{Kind: api.TermForever, Kids: []api.Term{m.block(2)}})
	}
	t.Kids = append(t.Kids, block)
	return t
}

func (m *maker) block(depth int) api.Term {
	t := api.Term{Kind: api.TermBlock}
	sight := slices.Clone(m.sight)
	for range m.random.Intn(4) {
		t.Kids = append(t.Kids, m.statement(depth))
	}
	if !m.errs() {
		m.sight = sight
	}
	return t
}

func (m *maker) statement(depth int) api.Term {
	switch n := m.random.Intn(12); {
	case n < 3:
		name := m.newName()
		t := api.Term{Kind: api.TermVar, Text: name, Kids: []api.Term{m.value(3)}}
		m.sight, m.own = append(m.sight, name), append(m.own, name)
		return t
	case n < 5 && len(m.sight) > 0:
		return api.Term{Kind: api.TermSet, Text: m.seen(), Kids: []api.Term{m.value(3)}}
	case n < 6 && len(m.arrays) > 0:
		return api.Term{Kind: api.TermPut, Text: m.oneOf(m.arrays), Kids: []api.Term{m.value(2), m.value(2)}}
	case n < 8 && depth > 0:
		t := api.Term{Kind: api.TermIf, Kids: []api.Term{m.value(2), m.block(depth - 1)}}
		if m.random.Intn(2) == 0 {
			t.Kids = append(t.Kids, m.block(depth-1))
		}
		return t
	case n < 10 && depth > 0:
		return api.Term{Kind: api.TermWhile, N: m.between(65536), Kids: []api.Term{m.value(2), m.block(depth - 1)}}
	case n < 11:
		return api.Term{Kind: api.TermReturn, Kids: []api.Term{m.value(3)}}
	}
	return api.Term{Kind: api.TermDo, Kids: []api.Term{m.value(3)}}
}

// seen is a variable in sight.
func (m *maker) seen() string {
	if m.errs() {
		return m.anyName()
	}
	return m.oneOf(m.sight)
}

func (m *maker) value(depth int) api.Term {
	switch n := m.random.Intn(12); {
	case n < 3 && depth > 0:
		l := modelLevels[m.random.Intn(len(modelLevels))]
		return api.Term{Kind: api.TermBinary, Text: m.oneOf(l), Kids: []api.Term{m.value(depth - 1), m.value(depth - 1)}}
	case n < 5 && depth > 0:
		return api.Term{Kind: api.TermUnary, Text: m.oneOf([]string{"-", "~", "!"}), Kids: []api.Term{m.value(depth - 1)}}
	case n < 6 && len(m.arrays) > 0:
		return api.Term{Kind: api.TermAt, Text: m.oneOf(m.arrays), Kids: []api.Term{m.value(depth - 1)}}
	case n < 8 && depth > 0:
		return m.call(depth)
	case n < 10 && len(m.sight) > 0:
		return api.Term{Kind: api.TermName, Text: m.seen()}
	}
	return api.Term{Kind: api.TermNumber, N: m.number()}
}

func (m *maker) call(depth int) api.Term {
	name, n := m.oneOf(modelBuiltIns), 0
	switch name {
	case "say", "mask", "read", "recv":
		n = 1
	case "write", "send":
		n = 2
	}
	if len(m.callees) > 0 && m.random.Intn(2) == 0 {
		name = m.oneOf(m.callees)
		n = m.calls[name]
	}
	if m.errs() || m.wrong > 0 && m.cyclic && m.random.Intn(4) == 0 {
		name = m.oneOf(m.functions) // perhaps one that calls this one
		n = m.calls[name]
	}
	if m.errs() {
		n += m.random.Intn(3) - 1
	}
	if m.errs() {
		name = m.oneOf([]string{"main", "f", "nobody"})
	}
	t := api.Term{Kind: api.TermCall, Text: name}
	for range n {
		t.Kids = append(t.Kids, m.value(depth-1))
	}
	return t
}

func anyTree(random *rand.Rand, wrong int) api.Term {
	m := &maker{random: random, wrong: wrong, cyclic: random.Intn(8) == 0}
	return m.program()
}

func holdParse(t *testing.T, s string) api.Errno {
	t.Helper()
	want, e, at := modelParse(s)
	got, f, place := rill.Parse(s)
	if e != f || at != place || !same(want, got) {
		t.Fatalf("Parse(%.2000q) = %d, %d, want %d, %d; the trees are the same: %v", s, f, place, e, at, same(want, got))
	}
	return e
}

func holdTree(t *testing.T, x api.Term) api.Errno {
	t.Helper()
	e, _ := modelFault(x)
	if f := rill.Check(x); f != e {
		t.Fatalf("Check(%+v) = %d, want %d", x, f, e)
	}
	text := ""
	if e == api.OK {
		text = modelText(x)
	}
	if len(text) > 20000 {
		text, e = "", api.ErrRillLong
	}
	if s, f := rill.Print(x); s != text || f != e {
		t.Fatalf("Print = %q, %d, want %q, %d", s, f, text, e)
	}
	return e
}

func same(a, b api.Term) bool {
	return a.Kind == b.Kind && a.Text == b.Text && a.N == b.N && slices.EqualFunc(a.Kids, b.Kids, same)
}

func enough(t *testing.T, count map[api.Errno]int, least int, all ...api.Errno) {
	t.Helper()
	for _, e := range all {
		if count[e] < least {
			t.Errorf("only %d come to %d", count[e], e)
		}
	}
}

// TestAnyTree: written in any way, it is read as it is, and printed in one way.
func TestAnyTree(t *testing.T) {
	t.Parallel()
	random := rand.New(rand.NewSource(2701))
	for range 2000 {
		x := anyTree(random, 0)
		if e := holdTree(t, x); e != api.OK {
			t.Fatalf("%+v is refused: %d", x, e)
		}
		s := anyGaps(random, anyTokens(random, x))
		holdParse(t, s)
		if y, e, _ := rill.Parse(s); e != api.OK || !same(x, y) {
			t.Fatalf("Parse(%q) = %+v, %d, want %+v", s, y, e, x)
		}
		text, _ := rill.Print(x)
		y, e, _ := rill.Parse(text)
		if again, _ := rill.Print(y); e != api.OK || !same(x, y) || again != text {
			t.Fatalf("%q is read as %+v, %d, and printed as %q", text, y, e, again)
		}
	}
}

// TestAnyWrongTree: what is wrong with it, and where, is what the model tells.
func TestAnyWrongTree(t *testing.T) {
	t.Parallel()
	random := rand.New(rand.NewSource(2702))
	count := map[api.Errno]int{}
	for range 6000 {
		x := anyTree(random, 5+random.Intn(300))
		holdTree(t, x)
		count[holdParse(t, anyGaps(random, anyTokens(random, x)))]++
	}
	enough(t, count, 50, api.OK, api.ErrRillName, api.ErrRillTwice, api.ErrRillCount, api.ErrRillRange, api.ErrRillCycle, api.ErrRillTree)
}

// spoil changes a term somewhere in the tree.
func spoil(random *rand.Rand, t *api.Term) {
	for len(t.Kids) > 0 && random.Intn(8) > 0 {
		t = &t.Kids[random.Intn(len(t.Kids))]
	}
	texts := []string{"", "a", "main", "say", "told", "if", "return", "+", "-", "!", "=", "==", "<<", "(", "1", "a b", "abcdefghijklmnopq", "é", "&&&", " a"}
	switch random.Intn(6) {
	case 0:
		t.Kind = api.TermKind(random.Intn(22) - 1)
	case 1:
		t.Text = texts[random.Intn(len(texts))]
	case 2:
		t.N = []int32{0, 1, -1, 513, 65537}[random.Intn(5)]
	case 3:
		if n := len(t.Kids); n > 0 {
			i := random.Intn(n)
			t.Kids = slices.Delete(t.Kids, i, i+1)
		}
	case 4:
		if n := len(t.Kids); n > 0 {
			i, j := random.Intn(n), random.Intn(n)
			t.Kids[i], t.Kids[j] = t.Kids[j], t.Kids[i]
		}
	case 5:
		n := random.Intn(len(t.Kids) + 1)
		t.Kids = slices.Insert(slices.Clone(t.Kids), n, api.Term{Kind: api.TermKind(1 + random.Intn(18)), Text: texts[random.Intn(len(texts))]})
	}
}

// TestAnySpoiledTree: most are none.
func TestAnySpoiledTree(t *testing.T) {
	t.Parallel()
	random := rand.New(rand.NewSource(2703))
	count := map[api.Errno]int{}
	for range 10000 {
		x := anyTree(random, 0)
		spoil(random, &x)
		count[holdTree(t, x)]++
	}
	enough(t, count, 100, api.OK, api.ErrRillTree, api.ErrRillName)
	enough(t, count, 10, api.ErrRillCount, api.ErrRillRange)
	for range 10000 {
		x := anyTree(random, 30)
		for range 1 + random.Intn(3) {
			spoil(random, &x)
		}
		holdTree(t, x)
	}
}

var someTokens = []string{"array", "func", "var", "if", "else", "while", "bound", "forever", "return", "say", "who", "(", ")", "[", "]", "{", "}", ",", ";", "=", "==", "<", "<<", "-", "~", "!", "&", "&&", "*", "0", "1", "0x10", "a", "main", "abcdefghijklmnopq", "4294967296", "1x", "007", "0x", "@", "\x00", "\"", ".", "\xc3\xa9", "\v", "0xG", "$"}

// TestAnySpoiledTokens: of a source some tokens come twice, or are others.
func TestAnySpoiledTokens(t *testing.T) {
	t.Parallel()
	random := rand.New(rand.NewSource(2704))
	count := map[api.Errno]int{}
	for range 5000 {
		all := anyTokens(random, anyTree(random, 0))
		for range 1 + random.Intn(2) {
			i, j := random.Intn(len(all)), random.Intn(len(all))
			switch random.Intn(5) {
			case 0:
				all = slices.Delete(all, i, min(i+1+random.Intn(3), len(all)))
			case 1:
				all[i], all[j] = all[j], all[i]
			case 2:
				all[i] = someTokens[random.Intn(len(someTokens))]
			case 3:
				all = slices.Insert(all, i, someTokens[random.Intn(len(someTokens))])
			case 4:
				all = slices.Insert(all, i, all[min(i, j):min(max(i, j), min(i, j)+5)]...)
			}
			if len(all) == 0 {
				break
			}
		}
		count[holdParse(t, anyGaps(random, all))]++
	}
	enough(t, count, 100, api.OK, api.ErrRillSyntax, api.ErrRillToken)
	enough(t, count, 20, api.ErrRillName, api.ErrRillRange)
}

// TestAnySpoiledBytes: some bytes are others, or missing.
func TestAnySpoiledBytes(t *testing.T) {
	t.Parallel()
	random := rand.New(rand.NewSource(2705))
	for range 5000 {
		b := []byte(anyGaps(random, anyTokens(random, anyTree(random, 0))))
		for range 1 + random.Intn(3) {
			i := random.Intn(len(b))
			switch random.Intn(3) {
			case 0:
				b[i] = byte(random.Intn(256))
			case 1:
				b[i] = "#\n (){}[]=<>&|;-!0x9_a"[random.Intn(22)]
			case 2:
				b = slices.Delete(b, i, i+1)
			}
		}
		holdParse(t, string(b))
	}
}

// TestAnyRowOfTokens: most do not go far.
func TestAnyRowOfTokens(t *testing.T) {
	t.Parallel()
	random := rand.New(rand.NewSource(2706))
	for range 20000 {
		all := []string{}
		if random.Intn(4) > 0 {
			all = append(all, "func", "main", "(", ")", "{")
		}
		for range random.Intn(12) {
			all = append(all, someTokens[random.Intn(len(someTokens)-10*random.Intn(2))])
		}
		holdParse(t, anyGaps(random, all))
	}
}

// anyNest is a value with many brackets and unary signs.
func anyNest(random *rand.Rand, depth int) string {
	if depth <= 0 {
		return []string{"1", "x", "say(1)"}[random.Intn(3)]
	}
	inner := anyNest(random, depth-1)
	switch random.Intn(9) {
	case 0, 1:
		return "(" + inner + ")"
	case 2:
		return "-" + inner
	case 3:
		return "!" + inner + " * " + anyNest(random, random.Intn(2))
	case 4:
		return "~1 - (" + inner + ")"
	case 5:
		return "a[" + inner + "]"
	case 6:
		return "say(" + inner + ")"
	case 7:
		return "-x == " + inner
	}
	return "1 - -" + inner + " + ~1"
}

// TestAnyNest: brackets and unary signs up to the bound, and beyond it.
func TestAnyNest(t *testing.T) {
	t.Parallel()
	random := rand.New(rand.NewSource(2707))
	count := map[api.Errno]int{}
	for range 3000 {
		blocks := random.Intn(20)
		s := "array a[1]; func main() { var x = 1; "
		for range blocks {
			s += "if " + anyNest(random, random.Intn(3)) + " { "
		}
		s += anyNest(random, 45-2*blocks-random.Intn(20)) + "; "
		for range blocks + 1 {
			s += "} "
		}
		count[holdParse(t, s)]++
	}
	enough(t, count, 100, api.OK, api.ErrRillDeep)
}
