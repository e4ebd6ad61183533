package rill

import "cloister/api"

// local is a name in a function.
type local struct {
	function int
	name     string
}

// sight is where a variable is in sight: from a spot on, up to another one.
type sight struct{ from, to int }

// globals tells the first array or function of each name.
func (l tree) globals() map[string]int {
	all := map[string]int{}
	for i, s := range l {
		if _, there := all[s.Text]; !there && (s.Kind == api.TermArray || s.Kind == api.TermFunction) {
			all[s.Text] = i
		}
	}
	return all
}

func (l tree) isParameter(s spot) bool {
	return s.Kind == api.TermName && l[s.around].Kind == api.TermFunction
}

// declares: it is a parameter, or a variable's beginning.
func (l tree) declares(s spot) bool { return s.Kind == api.TermVar || l.isParameter(s) }

func (s spot) local() local { return local{s.function, s.Text} }

func (l tree) twice() int {
	globals, locals := l.globals(), map[local]int{}
	return l.first(func(i int, s spot) bool {
		global, there := globals[s.Text]
		switch {
		case s.Kind == api.TermArray || s.Kind == api.TermFunction:
			return global != i
		case !l.declares(s):
			return false
		}
		_, was := locals[s.local()]
		locals[s.local()] = i
		return there || was
	})
}

// sights tells where all variables are in sight, each of a name of its own in its
// function: behind what they begin with, up to the end of what that stands in.
func (l tree) sights() map[local]sight {
	all := map[local]sight{}
	for _, s := range l {
		if l.declares(s) {
			all[s.local()] = sight{s.behind, l[s.around].behind}
		}
	}
	return all
}

func (l tree) unknown() int {
	globals, sights := l.globals(), l.sights()
	isA := func(name string, kind api.TermKind) bool {
		i, there := globals[name]
		return there && l[i].Kind == kind
	}
	return l.first(func(i int, s spot) bool {
		switch s.Kind {
		case api.TermProgram:
			return !endsWithMain(s.Kids)
		case api.TermName, api.TermSet:
			v, there := sights[s.local()]
			return !l.declares(s) && !(there && v.from <= i && i < v.to)
		case api.TermPut, api.TermAt:
			return !isA(s.Text, api.TermArray)
		case api.TermCall:
			return !isBuiltIn(s.Text) && (s.Text == mainName || !isA(s.Text, api.TermFunction))
		}
		return false
	})
}

func endsWithMain(all []api.Term) bool {
	if len(all) == 0 {
		return false
	}
	last := all[len(all)-1]
	return last.Kind == api.TermFunction && last.Text == mainName
}
