package rill

import "cloister/api"

// form is what a term has as its Text.
type form int

const (
	noText form = iota
	aName
	aNameOrBuiltIn
	aUnarySign
	aBinarySign
)

// shape is what a term of a kind has.
type shape struct {
	text        form
	number      bool // an N that need not be 0
	least, most int  // of Kids
}

const many = 1<<31 - 1

var shapes = [...]shape{
	api.TermProgram:  {most: many},
	api.TermArray:    {text: aName, number: true},
	api.TermFunction: {text: aName, least: 1, most: many},
	api.TermBlock:    {most: many},
	api.TermVar:      {text: aName, least: 1, most: 1},
	api.TermSet:      {text: aName, least: 1, most: 1},
	api.TermPut:      {text: aName, least: 2, most: 2},
	api.TermIf:       {least: 2, most: 3},
	api.TermWhile:    {number: true, least: 2, most: 2},
	api.TermForever:  {least: 1, most: 1},
	api.TermReturn:   {least: 1, most: 1},
	api.TermDo:       {least: 1, most: 1},
	api.TermNumber:   {number: true},
	api.TermName:     {text: aName},
	api.TermAt:       {text: aName, least: 1, most: 1},
	api.TermCall:     {text: aNameOrBuiltIn, most: many},
	api.TermUnary:    {text: aUnarySign, least: 1, most: 1},
	api.TermBinary:   {text: aBinarySign, least: 2, most: 2},
}

func isOfForm(text string, f form) bool {
	switch f {
	case aName:
		return isName(text)
	case aNameOrBuiltIn:
		return isName(text) || isBuiltIn(text)
	case aUnarySign:
		return isUnary(text)
	case aBinarySign:
		return isBinary(text)
	}
	return text == ""
}

// part is what a term stands as.
type part int

const (
	theProgram part = iota
	anArray
	aFunction
	lastFunction
	aParameter
	aBlock
	lastBlock // the last function's
	aStatement
	lastStatement // of that block
	aValue
)

func mayStand(k api.TermKind, as part) bool {
	switch as {
	case theProgram:
		return k == api.TermProgram
	case anArray:
		return k == api.TermArray
	case aFunction, lastFunction:
		return k == api.TermFunction
	case aParameter:
		return k == api.TermName
	case aBlock, lastBlock:
		return k == api.TermBlock
	case aStatement:
		return isStatement(k) && k != api.TermForever
	case lastStatement:
		return isStatement(k)
	}
	return k >= api.TermNumber && k <= api.TermBinary
}

func isStatement(k api.TermKind) bool { return k >= api.TermVar && k <= api.TermDo }

// standing is a term where it stands.
type standing struct {
	*api.Term
	as part
}

func (s standing) isShaped() bool {
	if !mayStand(s.Kind, s.as) {
		return false
	}
	want := shapes[s.Kind]
	return isOfForm(s.Text, want.text) && (want.number || s.N == 0) && len(s.Kids) >= want.least && len(s.Kids) <= want.most
}

// kid is one of its Kids, where that stands.
func (s standing) kid(i int) standing { return standing{&s.Kids[i], s.partOf(i)} }

func (s standing) partOf(i int) part {
	last := i == len(s.Kids)-1
	switch s.Kind {
	case api.TermProgram:
		return partOfProgram(s.Kids, i)
	case api.TermFunction:
		if !last {
			return aParameter
		}
		return oneOf(s.as == lastFunction, lastBlock, aBlock)
	case api.TermBlock:
		return oneOf(last && s.as == lastBlock, lastStatement, aStatement)
	case api.TermForever:
		return aBlock
	case api.TermIf, api.TermWhile:
		return oneOf(i > 0, aBlock, aValue)
	}
	return aValue
}

// partOfProgram: an array has but arrays ahead; whether it is so farther ahead was
// asked of the one ahead.
func partOfProgram(all []api.Term, i int) part {
	if all[i].Kind == api.TermArray && (i == 0 || all[i-1].Kind == api.TermArray) {
		return anArray
	}
	return oneOf(i == len(all)-1, lastFunction, aFunction)
}

func oneOf(so bool, a, b part) part {
	if so {
		return a
	}
	return b
}

// misshapen tells which term, in the order of the tree, does not have the shape
// that it must have. Lists may be shared, or have themselves within: each term is
// looked at once as each part, that this ends; where it is shared, the order
// tells nothing.
func misshapen(root api.Term) int {
	seen := map[standing]int{}
	rest := []standing{{&root, theProgram}}
	for n := 0; len(rest) > 0; n++ {
		s := rest[len(rest)-1]
		rest = rest[:len(rest)-1]
		if !s.isShaped() {
			return n
		}
		for i := len(s.Kids) - 1; i >= 0; i-- {
			k := s.kid(i)
			if _, was := seen[k]; !was {
				seen[k] = n
				rest = append(rest, k)
			}
		}
	}
	return none
}
