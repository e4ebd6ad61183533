package rill

import "cloister/api"

func (l tree) miscounted() int {
	globals := l.globals()
	return l.first(func(_ int, s spot) bool {
		switch s.Kind {
		case api.TermFunction:
			return s.Text == mainName && s.parameters() > 0
		case api.TermCall:
			want, is := taken(s.Text)
			if !is {
				want = l[globals[s.Text]].parameters()
			}
			return len(s.Kids) != want
		}
		return false
	})
}

// called is a function's set of others, a bit for each one.
type called = uint64

// cyclic: there are no more functions than bits.
func (l tree) cyclic() int {
	numbers, functions := map[int]int{}, []int{}
	for i, s := range l {
		if s.Kind == api.TermFunction {
			numbers[i] = len(functions)
			functions = append(functions, i)
		}
	}
	calls := l.calls(numbers)
	reach(calls)
	for n, i := range functions {
		if calls[n]>>n&1 == 1 {
			return i
		}
	}
	return none
}

// calls tells which functions each one calls; they are numbered by their spots.
func (l tree) calls(numbers map[int]int) []called {
	globals, all := l.globals(), make([]called, len(numbers))
	for _, s := range l {
		if s.Kind == api.TermCall && !isBuiltIn(s.Text) {
			all[numbers[s.function]] |= 1 << numbers[globals[s.Text]]
		}
	}
	return all
}

// reach adds what each one calls by others.
func reach(calls []called) {
	for by := range calls {
		for n := range calls {
			if calls[n]>>by&1 == 1 {
				calls[n] |= calls[by]
			}
		}
	}
}
