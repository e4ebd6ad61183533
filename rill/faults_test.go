package rill_test

import (
	"slices"
	"strings"

	"cloister/api"
)

// modelFault tells the first error of a tree, and the number of the term that has
// it, in the order of the tree; of ErrRillTree that of the first forever that may
// not stand there.
func modelFault(t api.Term) (api.Errno, int) {
	m := &faults{first: map[api.Errno]int{}, calls: map[string][]string{}}
	if !m.isTree(t) {
		return api.ErrRillTree, m.forever
	}
	m.look(t)
	for _, e := range []api.Errno{api.ErrRillDeep, api.ErrRillRange, api.ErrRillTwice, api.ErrRillName, api.ErrRillCount, api.ErrRillCycle} {
		if n, there := m.first[e]; there {
			return e, n
		}
	}
	return api.OK, 0
}

type faults struct {
	first     map[api.Errno]int
	number    int // of terms that were looked at
	forever   int
	program   api.Term
	functions []api.Term
	seen      []string            // arrays and functions so far
	own       []string            // what was declared in this function so far
	calls     map[string][]string // who calls whom
	caller    string
}

func (m *faults) found(e api.Errno, n int, so bool) {
	if _, there := m.first[e]; so && !there {
		m.first[e] = n
	}
}

// isTree asks the whole shape, from above.
func (m *faults) isTree(t api.Term) bool {
	if t.Kind != api.TermProgram || t.Text != "" || t.N != 0 {
		return false
	}
	functions, n, ok := 0, 1, true
	for i, k := range t.Kids {
		at := n
		n += sizeOf(k)
		switch {
		case k.Kind == api.TermArray && functions == 0:
			ok = ok && modelIsName(k.Text) && len(k.Kids) == 0
		case k.Kind == api.TermFunction && len(k.Kids) > 0 && modelIsName(k.Text) && k.N == 0:
			functions++
			at++
			for _, x := range k.Kids[:len(k.Kids)-1] {
				ok = ok && x.Kind == api.TermName && modelIsName(x.Text) && x.N == 0 && len(x.Kids) == 0
				at++
			}
			ok = m.isBlock(k.Kids[len(k.Kids)-1], at, i == len(t.Kids)-1, ok) && ok
		default:
			ok = false
		}
	}
	return ok
}

func sizeOf(t api.Term) int {
	n := 1
	for _, k := range t.Kids {
		n += sizeOf(k)
	}
	return n
}

// isBlock also notes the first forever that stands where it may not; at is the
// block's number.
func (m *faults) isBlock(t api.Term, at int, isLast, ok bool) bool {
	if t.Kind != api.TermBlock || t.Text != "" || t.N != 0 {
		return false
	}
	n := at + 1
	for i, k := range t.Kids {
		if k.Kind == api.TermForever && !(isLast && i == len(t.Kids)-1) {
			if ok && m.forever == 0 {
				m.forever = n
			}
			ok = false
		}
		ok = m.isStatement(k, n, ok) && ok
		n += sizeOf(k)
	}
	return ok
}

func (m *faults) isStatement(t api.Term, at int, ok bool) bool {
	values, blocks := 1, 0
	switch t.Kind {
	case api.TermVar, api.TermSet:
	case api.TermPut:
		values = 2
	case api.TermIf:
		blocks = max(1, len(t.Kids)-1)
	case api.TermWhile:
		blocks = 1
	case api.TermForever:
		values, blocks = 0, 1
	case api.TermReturn, api.TermDo:
	default:
		return false
	}
	named := t.Kind == api.TermVar || t.Kind == api.TermSet || t.Kind == api.TermPut
	if len(t.Kids) != values+blocks || blocks > 2 || t.N != 0 && t.Kind != api.TermWhile || named && !modelIsName(t.Text) || !named && t.Text != "" {
		return false
	}
	at++
	for i, k := range t.Kids {
		if i < values {
			ok = isValue(k) && ok
		} else {
			ok = m.isBlock(k, at, false, ok) && ok
		}
		at += sizeOf(k)
	}
	return ok
}

func isValue(t api.Term) bool {
	for _, k := range t.Kids {
		if !isValue(k) {
			return false
		}
	}
	if t.Kind != api.TermNumber && t.N != 0 {
		return false
	}
	switch n := len(t.Kids); t.Kind {
	case api.TermNumber:
		return n == 0 && t.Text == ""
	case api.TermName:
		return n == 0 && modelIsName(t.Text)
	case api.TermAt:
		return n == 1 && modelIsName(t.Text)
	case api.TermCall:
		return modelIsName(t.Text) || slices.Contains(modelBuiltIns, t.Text)
	case api.TermUnary:
		return n == 1 && slices.Contains([]string{"-", "~", "!"}, t.Text)
	case api.TermBinary:
		return n == 2 && slices.ContainsFunc(modelLevels, func(l []string) bool { return slices.Contains(l, t.Text) })
	}
	return false
}

func (m *faults) look(t api.Term) {
	m.program = t
	for _, k := range t.Kids {
		if k.Kind == api.TermFunction {
			m.functions = append(m.functions, k)
		}
	}
	n := len(m.functions)
	m.found(api.ErrRillName, 0, n == 0 || m.functions[n-1].Text != "main")
	m.number = 1
	places := map[string]int{}
	arrays, functions := 0, 0
	for _, k := range t.Kids {
		at := m.term(1)
		m.found(api.ErrRillTwice, at, slices.Contains(m.seen, k.Text))
		m.seen = append(m.seen, k.Text)
		if k.Kind == api.TermArray {
			arrays++
			m.found(api.ErrRillRange, at, arrays > 16 || k.N < 1 || k.N > 512)
			continue
		}
		functions++
		places[k.Text] = at
		m.found(api.ErrRillRange, at, functions > 64 || len(k.Kids) > 7)
		m.found(api.ErrRillCount, at, k.Text == "main" && len(k.Kids) > 1)
		m.function(k)
	}
	for _, f := range m.functions {
		m.found(api.ErrRillCycle, places[f.Text], m.reaches(f.Text, f.Text, map[string]bool{}))
	}
}

// term counts one, at this depth.
func (m *faults) term(depth int) int {
	at := m.number
	m.number++
	m.found(api.ErrRillDeep, at, depth >= 40 || m.number > 4000)
	return at
}

func (m *faults) function(f api.Term) {
	m.own, m.caller = nil, f.Text
	last := len(f.Kids) - 1
	for _, k := range f.Kids[:last] {
		m.declare(k.Text, m.term(2))
	}
	m.block(f.Kids[last], 2, m.own)
}

func (m *faults) declare(name string, at int) {
	global := slices.ContainsFunc(m.program.Kids, func(k api.Term) bool { return k.Text == name })
	m.found(api.ErrRillTwice, at, global || slices.Contains(m.own, name))
	m.own = append(m.own, name)
}

// block looks at statements, with these names in sight.
func (m *faults) block(t api.Term, depth int, sight []string) {
	m.term(depth)
	sight = slices.Clone(sight)
	for _, k := range t.Kids {
		m.statement(k, depth+1, sight)
		if k.Kind == api.TermVar {
			sight = append(sight, k.Text)
		}
	}
}

func (m *faults) statement(t api.Term, depth int, sight []string) {
	at := m.term(depth)
	switch t.Kind {
	case api.TermVar:
		m.declare(t.Text, at)
	case api.TermSet:
		m.found(api.ErrRillName, at, !slices.Contains(sight, t.Text))
	case api.TermPut:
		m.found(api.ErrRillName, at, !m.isGlobal(t.Text, api.TermArray))
	case api.TermWhile:
		m.found(api.ErrRillRange, at, t.N < 1 || t.N > 65536)
	}
	for _, k := range t.Kids {
		if k.Kind == api.TermBlock {
			m.block(k, depth+1, sight)
		} else {
			m.value(k, depth+1, sight)
		}
	}
}

func (m *faults) isGlobal(name string, kind api.TermKind) bool {
	return slices.ContainsFunc(m.program.Kids, func(k api.Term) bool { return k.Kind == kind && k.Text == name })
}

func (m *faults) value(t api.Term, depth int, sight []string) {
	at := m.term(depth)
	switch t.Kind {
	case api.TermName:
		m.found(api.ErrRillName, at, !slices.Contains(sight, t.Text))
	case api.TermAt:
		m.found(api.ErrRillName, at, !m.isGlobal(t.Text, api.TermArray))
	case api.TermCall:
		m.call(t, at)
	}
	for _, k := range t.Kids {
		m.value(k, depth+1, sight)
	}
}

func (m *faults) call(t api.Term, at int) {
	for n, names := range []string{"who left clock wait halt pending told", "say mask read recv", "write send"} {
		if slices.Contains(strings.Fields(names), t.Text) {
			m.found(api.ErrRillCount, at, len(t.Kids) != n)
			return
		}
	}
	m.found(api.ErrRillName, at, t.Text == "main" || !m.isGlobal(t.Text, api.TermFunction))
	for _, f := range m.functions {
		if f.Text == t.Text {
			m.found(api.ErrRillCount, at, len(t.Kids) != len(f.Kids)-1)
		}
	}
	m.calls[m.caller] = append(m.calls[m.caller], t.Text)
}

func (m *faults) reaches(from, to string, seen map[string]bool) bool {
	for _, next := range m.calls[from] {
		if next == to {
			return true
		}
		if !seen[next] {
			seen[next] = true
			if m.reaches(next, to, seen) {
				return true
			}
		}
	}
	return false
}
