package rill_test

import (
	"slices"
	"strings"
)

// grammar is the chapter's, each line a rule: what it is, and one way to be it.
const grammar = `
program = arrays functions
arrays =
arrays = arrays anArray
functions =
functions = functions function
anArray = array NAME [ NUMBER ] ;
function = func NAME ( ) block
function = func NAME ( names ) block
names = NAME
names = names , NAME
block = { statements }
statements =
statements = statements statement
statement = var NAME = value ;
statement = NAME = value ;
statement = NAME [ value ] = value ;
statement = if value block
statement = if value block else block
statement = while value bound NUMBER block
statement = forever block
statement = return value ;
statement = value ;
value = bare
value = value binary bare
bare = NUMBER
bare = NAME
bare = NAME [ value ]
bare = called ( )
bare = called ( values )
bare = unary bare
bare = ( value )
called = NAME
called = BUILTIN
values = value
values = values , value
unary = -
unary = ~
unary = !
`

type production struct {
	what string
	ways []string
}

// productions: those of binary signs beside the grammar's lines.
func productions() []production {
	var all []production
	for _, l := range strings.Split(strings.TrimSpace(grammar), "\n") {
		what, ways, _ := strings.Cut(l, " =")
		all = append(all, production{what, strings.Fields(ways)})
	}
	for _, level := range modelLevels {
		for _, sign := range level {
			all = append(all, production{"binary", []string{sign}})
		}
	}
	return all
}

// item is a rule of which so much was seen, from a token on.
type item struct{ rule, seen, from int }

// recogniser goes over tokens by the way of Earley. No rule is called as a class
// of tokens is.
type recogniser struct {
	rules  []production
	of     map[string][]int // the rules of each name
	fading map[string]bool  // what may be nothing
}

func newRecogniser() *recogniser {
	r := &recogniser{rules: productions(), of: map[string][]int{}, fading: map[string]bool{}}
	for n, p := range r.rules {
		r.of[p.what] = append(r.of[p.what], n)
		if len(p.ways) == 0 {
			r.fading[p.what] = true
		}
	}
	return r
}

var theRecogniser = newRecogniser()

// next is what an item waits for.
func (r *recogniser) next(i item) string {
	if ways := r.rules[i.rule].ways; i.seen < len(ways) {
		return ways[i.seen]
	}
	return ""
}

// standing tells how many of these tokens may stand there, from the first on.
func (r *recogniser) standing(classes []string) int {
	g := goneOver{recogniser: r, there: map[item]int{}}
	whole := item{rule: r.of["program"][0], seen: 2}
	row := []item{{rule: whole.rule}}
	for at, class := range classes {
		g.fill(row)
		here := g.all[g.starts[at]:]
		if class == "END" && slices.Contains(here, whole) {
			return at + 1
		}
		row = row[:0]
		for _, i := range here {
			if r.next(i) == class {
				row = append(row, item{i.rule, i.seen + 1, i.from})
			}
		}
		if len(row) == 0 {
			return at
		}
	}
	return len(classes)
}

// goneOver are the items of all tokens so far.
type goneOver struct {
	*recogniser
	all    []item
	starts []int        // where those of each token begin
	there  map[item]int // those of the last one
}

func (g *goneOver) add(i item) {
	if _, was := g.there[i]; !was {
		g.there[i] = 1
		g.all = append(g.all, i)
	}
}

// fill adds what may begin, and what goes on when something was seen whole.
func (g *goneOver) fill(row []item) {
	at := len(g.starts)
	g.starts = append(g.starts, len(g.all))
	clear(g.there)
	for _, i := range row {
		g.add(i)
	}
	for n := g.starts[at]; n < len(g.all); n++ {
		i := g.all[n]
		w := g.next(i)
		if w == "" {
			g.goOn(i, at)
			continue
		}
		for _, k := range g.of[w] {
			g.add(item{rule: k, from: at})
		}
		if g.fading[w] {
			g.add(item{i.rule, i.seen + 1, i.from})
		}
	}
}

// goOn: what waited for this one, where it began.
func (g *goneOver) goOn(i item, at int) {
	end := len(g.all)
	if i.from < at {
		end = g.starts[i.from+1]
	}
	for _, j := range g.all[g.starts[i.from]:end] {
		if g.next(j) == g.rules[i.rule].what {
			g.add(item{j.rule, j.seen + 1, j.from})
		}
	}
}
