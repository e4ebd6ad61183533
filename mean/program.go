package mean

import "cloister/api"

const mainName = "main"

// program is one that is run.
type program struct {
	outer       api.Outer
	fuel, steps int
	told        uint32
	arrays      map[string][]uint32
	functions   map[string]api.Term

	statements [kinds]statement
	values     [kinds]value
	unary      map[string]unarySign
	binary     map[string]binarySign
}

func newProgram(t api.Term, fuel int, o api.Outer) *program {
	p := &program{
		outer:      o,
		fuel:       fuel,
		arrays:     map[string][]uint32{},
		functions:  map[string]api.Term{},
		statements: allStatements(),
		values:     allValues(),
		unary:      unarySigns(),
		binary:     binarySigns(),
	}
	for _, k := range t.Kids {
		if k.Kind == api.TermArray {
			p.arrays[k.Text] = make([]uint32, k.N)
		} else {
			p.functions[k.Text] = copied(k)
		}
	}
	return p
}

// copied: the one outside may have the tree too, and write into it meanwhile.
func copied(t api.Term) api.Term {
	kids := make([]api.Term, len(t.Kids))
	for i, k := range t.Kids {
		kids[i] = copied(k)
	}
	t.Kids = kids
	return t
}

func (p *program) step() {
	if p.steps == p.fuel {
		panic(ended{api.ErrMeanFuel})
	}
	p.steps++
}

// call is a function that is called.
type call struct {
	*program
	variables map[string]uint32
}

// function is called by its name; what it gives.
func (p *program) function(name string, numbers []uint32) (gives uint32) {
	defer func() {
		if given := recover(); given != nil {
			gives = returnedBy(given)
		}
	}()
	c, f := call{p, map[string]uint32{}}, p.functions[name]
	for i, n := range numbers {
		c.variables[f.Kids[i].Text] = n
	}
	c.block(f.Kids[len(numbers)])
	return 0
}
