package rill

import "cloister/api"

// none is where no term is.
const none = -1

// mostParameters of a function.
const mostParameters = 6

// rule tells the first term that breaks it, or none.
type rule struct {
	e     api.Errno
	first func(tree) int
}

// rules are asked one behind the other: each one knows that those ahead of it
// hold.
func rules() []rule {
	return []rule{
		{api.ErrRillRange, tree.beyond},
		{api.ErrRillTwice, tree.twice},
		{api.ErrRillName, tree.unknown},
		{api.ErrRillCount, tree.miscounted},
		{api.ErrRillCycle, tree.cyclic},
	}
}

// fault tells the first error that there is, and which term has it, in the order
// of the tree.
func fault(t api.Term) (api.Errno, int) {
	if n := misshapen(t); n != none {
		return api.ErrRillTree, n
	}
	all, whole := order(t)
	if !whole {
		return api.ErrRillDeep, len(all)
	}
	for _, r := range rules() {
		if n := r.first(all); n != none {
			return r.e, n
		}
	}
	return api.OK, 0
}

// spot is a term in the order of its tree.
type spot struct {
	api.Term
	around   int // the spot of the term that it stands in
	function int // the spot of the function that it stands in
	behind   int // the first spot behind all that stands in it
}

// tree is all terms in their order.
type tree []spot

// order tells those ahead of the first one that stands too deep, or is too many;
// false, if there is such a one.
func order(t api.Term) (tree, bool) {
	var all tree
	whole := all.add(t, spot{around: none, function: none}, 0)
	return all, whole
}

// add lays a term behind the others, within another one.
func (l *tree) add(t api.Term, s spot, depth int) bool {
	if depth >= api.MaxNest || len(*l) >= api.MaxTerms {
		return false
	}
	at := len(*l)
	s.Term = t
	*l = append(*l, s)
	inner := spot{around: at, function: s.function}
	if t.Kind == api.TermFunction {
		inner.function = at
	}
	for _, k := range t.Kids {
		if !l.add(k, inner, depth+1) {
			return false
		}
	}
	(*l)[at].behind = len(*l)
	return true
}

// first tells the first spot of which this is so.
func (l tree) first(so func(i int, s spot) bool) int {
	for i, s := range l {
		if so(i, s) {
			return i
		}
	}
	return none
}

func (l tree) beyond() int {
	arrays, functions := 0, 0
	return l.first(func(_ int, s spot) bool {
		switch s.Kind {
		case api.TermArray:
			arrays++
			return arrays > api.MaxArrays || s.N < 1 || s.N > api.MaxArray
		case api.TermFunction:
			functions++
			return functions > api.MaxFuncs || s.parameters() > mostParameters
		case api.TermWhile:
			return s.N < 1 || s.N > api.MaxBound
		}
		return false
	})
}

// parameters: all of a function's Kids but its block.
func (s spot) parameters() int { return len(s.Kids) - 1 }
