package mean_test

import (
	"fmt"
	"math/big"

	"cloister/api"
)

// model runs a tree by the chapter's words, without any function that calls
// itself: what is still to be done stands in a list, the next deed at its end.
type model struct {
	fuel, steps int
	todo        []func()
	numbers     []uint32 // that were reckoned, and that nothing has taken yet
	frames      []modelFrame
	arrays      map[string][]uint32
	functions   map[string]api.Term
	told        uint32
	outer       *listener
	e           api.Errno

	done map[string]int // how often what was done
}

type modelFrame struct {
	variables map[string]uint32
	todo      int // how much was to be done when it was called
}

func modelRun(t api.Term, fuel int, o *listener) (int, api.Errno, map[string]int) {
	m := &model{fuel: fuel, arrays: map[string][]uint32{}, functions: map[string]api.Term{}, outer: o, done: map[string]int{}}
	for _, k := range t.Kids {
		if k.Kind == api.TermArray {
			m.arrays[k.Text] = make([]uint32, k.N)
		} else {
			m.functions[k.Text] = k
		}
	}
	m.enter("main")
	for len(m.todo) > 0 {
		next := m.todo[len(m.todo)-1]
		m.todo = m.todo[:len(m.todo)-1]
		next()
	}
	return m.steps, m.e, m.done
}

// then lays down what is to be done now, in its order.
func (m *model) then(deeds ...func()) {
	for i := range deeds {
		m.todo = append(m.todo, deeds[len(deeds)-1-i])
	}
}

func (m *model) push(n uint32) { m.numbers = append(m.numbers, n) }

func (m *model) pop() uint32 {
	n := m.numbers[len(m.numbers)-1]
	m.numbers = m.numbers[:len(m.numbers)-1]
	return n
}

func (m *model) step() {
	if m.steps == m.fuel {
		m.e, m.todo = api.ErrMeanFuel, nil
		return
	}
	m.steps++
}

func (m *model) frame() modelFrame { return m.frames[len(m.frames)-1] }

// enter calls a function with the numbers that were reckoned last.
func (m *model) enter(name string) {
	f := m.functions[name]
	last := len(f.Kids) - 1
	frame := modelFrame{map[string]uint32{}, len(m.todo)}
	for i := last - 1; i >= 0; i-- {
		frame.variables[f.Kids[i].Text] = m.pop()
	}
	m.frames = append(m.frames, frame)
	m.then(func() { m.block(f.Kids[last]) }, func() { m.push(0); m.leave() })
}

func (m *model) leave() {
	m.todo = m.todo[:m.frame().todo]
	m.frames = m.frames[:len(m.frames)-1]
}

func (m *model) block(t api.Term) {
	var deeds []func()
	for _, k := range t.Kids {
		deeds = append(deeds, m.step, func() { m.statement(k) })
	}
	m.then(deeds...)
}

// of reckons a value, and does the rest then.
func (m *model) of(t api.Term, rest func(n uint32)) {
	m.then(m.step, func() { m.value(t) }, func() { rest(m.pop()) })
}

func (m *model) statement(t api.Term) {
	m.done[fmt.Sprint("kind ", t.Kind)]++
	switch t.Kind {
	case api.TermVar, api.TermSet:
		m.of(t.Kids[0], func(n uint32) { m.frame().variables[t.Text] = n })
	case api.TermPut:
		m.of(t.Kids[0], func(place uint32) {
			m.of(t.Kids[1], func(n uint32) {
				a := m.arrays[t.Text]
				for i := range a {
					if uint32(i) == place {
						m.done["put in"]++
						a[i] = n
					}
				}
			})
		})
	case api.TermIf:
		m.of(t.Kids[0], func(n uint32) {
			switch {
			case n != 0:
				m.block(t.Kids[1])
			case len(t.Kids) == 3:
				m.done["else"]++
				m.block(t.Kids[2])
			}
		})
	case api.TermWhile:
		m.round(t, 0)
	case api.TermForever:
		m.forever(t)
	case api.TermReturn:
		m.of(t.Kids[0], func(n uint32) {
			m.push(n)
			m.leave()
		})
	case api.TermDo:
		m.of(t.Kids[0], func(uint32) {})
	}
}

func (m *model) round(t api.Term, begun int32) {
	if begun == t.N {
		m.done["all rounds"]++
		return
	}
	m.of(t.Kids[0], func(n uint32) {
		if n != 0 {
			m.done["round"]++
			m.then(m.step, func() { m.block(t.Kids[1]) }, func() { m.round(t, begun+1) })
		}
	})
}

func (m *model) forever(t api.Term) {
	m.then(m.step, func() { m.block(t.Kids[0]) }, func() { m.forever(t) })
}

func (m *model) value(t api.Term) {
	m.done[fmt.Sprint("kind ", t.Kind)]++
	switch t.Kind {
	case api.TermNumber:
		m.push(uint32(t.N))
	case api.TermName:
		m.push(m.frame().variables[t.Text])
	case api.TermAt:
		m.of(t.Kids[0], func(place uint32) {
			n := uint32(0)
			for i, x := range m.arrays[t.Text] {
				if uint32(i) == place {
					m.done["at in"]++
					n = x
				}
			}
			m.push(n)
		})
	case api.TermUnary:
		m.done["u"+t.Text]++
		m.of(t.Kids[0], func(n uint32) { m.push(modelUnary(t.Text, n)) })
	case api.TermBinary:
		m.done[t.Text]++
		m.of(t.Kids[0], func(left uint32) { m.right(t, left) })
	case api.TermCall:
		m.calls(t)
	}
}

func (m *model) right(t api.Term, left uint32) {
	switch {
	case t.Text == "&&" && left == 0:
		m.push(0)
	case t.Text == "||" && left != 0:
		m.push(1)
	default:
		m.of(t.Kids[1], func(right uint32) { m.push(modelBinary(t.Text, left, right)) })
	}
}

func (m *model) calls(t api.Term) {
	var deeds []func()
	for _, k := range t.Kids {
		deeds = append(deeds, m.step, func() { m.value(k) })
	}
	m.then(append(deeds, func() {
		if _, is := m.functions[t.Text]; is {
			m.done["function"]++
			m.enter(t.Text)
			return
		}
		m.done[t.Text]++
		var args []uint32
		for range t.Kids {
			args = append([]uint32{m.pop()}, args...)
		}
		m.builtIn(t.Text, args)
	})...)
}

func (m *model) builtIn(name string, args []uint32) {
	one := map[string]uint32{"say": 8, "who": 7, "left": 9, "pending": 6, "wait": 10, "clock": 100, "mask": 5, "write": 1, "send": 3}
	two := map[string]uint32{"read": 2, "recv": 4}
	switch {
	case one[name] != 0:
		m.push(m.outer.Call(one[name], args...))
	case two[name] != 0:
		m.told = m.outer.Call(two[name], args...)
		if m.told >= 4 && m.told <= 256 {
			m.done["message"]++
			m.push(m.outer.Call(100+two[name], args...))
		} else {
			m.push(0)
		}
	case name == "told":
		m.push(m.told)
	case name == "halt":
		m.outer.Call(11)
		m.todo = nil
	}
}

func great(n uint32) *big.Int { return new(big.Int).SetUint64(uint64(n)) }

// cut: to 32 bits.
func cut(n *big.Int) uint32 {
	return uint32(new(big.Int).Mod(n, great(1<<31).Lsh(great(1), 32)).Uint64())
}

func modelSigned(n uint32) int64 {
	if int64(n) >= 2147483648 {
		return int64(n) - 4294967296
	}
	return int64(n)
}

func modelTruth(so bool) uint32 {
	return map[bool]uint32{true: 1, false: 0}[so]
}

func modelUnary(sign string, n uint32) uint32 {
	switch sign {
	case "-":
		return cut(new(big.Int).Sub(great(0), great(n)))
	case "~":
		return 4294967295 - n
	case "!":
		return modelTruth(n == 0)
	}
	panic(sign)
}

func modelBinary(sign string, left, right uint32) uint32 {
	l, r, x := great(left), great(right), new(big.Int)
	a, b := modelSigned(left), modelSigned(right)
	switch sign {
	case "+":
		return cut(x.Add(l, r))
	case "-":
		return cut(x.Sub(l, r))
	case "*":
		return cut(x.Mul(l, r))
	case "/":
		if right == 0 {
			return 4294967295
		}
		return cut(x.Div(l, r))
	case "%":
		if right == 0 {
			return left
		}
		return cut(x.Mod(l, r))
	case "&":
		return cut(x.And(l, r))
	case "|":
		return cut(x.Or(l, r))
	case "^":
		return cut(x.Xor(l, r))
	case "<<":
		return cut(x.Lsh(l, uint(right)%32))
	case ">>":
		return cut(x.Rsh(l, uint(right)%32))
	case "==":
		return modelTruth(left == right)
	case "!=":
		return modelTruth(left != right)
	case "<":
		return modelTruth(a < b)
	case "<=":
		return modelTruth(a <= b)
	case ">":
		return modelTruth(a > b)
	case ">=":
		return modelTruth(a >= b)
	case "&&", "||": // when the right one is asked
		return modelTruth(right != 0)
	}
	panic(sign)
}
