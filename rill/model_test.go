package rill_test

import (
	"slices"
	"strings"

	"cloister/api"
)

// leaf is a term of the model, with the place where it begins.
type leaf struct {
	kind api.TermKind
	text string
	n    int32
	kids []leaf
	at   int
}

func (l leaf) term() api.Term {
	t := api.Term{Kind: l.kind, Text: l.text, N: l.n}
	for _, k := range l.kids {
		t.Kids = append(t.Kids, k.term())
	}
	return t
}

// row is the leaf and all within it, in the order of the tree.
func (l leaf) row() []leaf {
	all := []leaf{l}
	for _, k := range l.kids {
		all = append(all, k.row()...)
	}
	return all
}

func modelParse(s string) (api.Term, api.Errno, int) {
	if len(s) > 20000 {
		return api.Term{}, api.ErrRillLong, 0
	}
	all := modelTokens(s)
	var classes []string
	for _, t := range all {
		if t.e == api.OK {
			classes = append(classes, t.class)
		}
	}
	n := theRecogniser.standing(classes)
	if i := modelTooDeep(all[:n]); i >= 0 {
		return api.Term{}, api.ErrRillDeep, all[i].at
	}
	if n < len(classes) {
		return api.Term{}, api.ErrRillSyntax, all[n].at
	}
	if last := all[len(all)-1]; last.e != api.OK {
		return api.Term{}, last.e, last.at
	}
	tree := modelProgram(all[:len(all)-1])
	e, place := modelFault(tree.term())
	if e != api.OK {
		return api.Term{}, e, tree.row()[place].at
	}
	return tree.term(), api.OK, 0
}

// cut parts tokens behind the first one of this class that stands in no bracket.
func cut(all []modelToken, classes ...string) (ahead, rest []modelToken) {
	depth := 0
	for i, t := range all {
		if depth == 0 && slices.Contains(classes, t.class) {
			return all[:i], all[i:]
		}
		if strings.Contains("([{", t.class) {
			depth++
		}
		if strings.Contains(")]}", t.class) {
			depth--
		}
	}
	return all, nil
}

// group parts tokens behind the bracket that ends the first one.
func group(all []modelToken) (inner, rest []modelToken) {
	depth := 0
	for i, t := range all {
		if strings.Contains("([{", t.class) {
			depth++
		}
		if strings.Contains(")]}", t.class) {
			depth--
		}
		if depth == 0 {
			return all[1:i], all[i+1:]
		}
	}
	panic("no end")
}

func modelNumber(t modelToken) int32 {
	n := uint64(0)
	digits, base := t.text, uint64(10)
	if rest, is := strings.CutPrefix(digits, "0x"); is {
		digits, base = rest, 16
	}
	for _, c := range digits {
		n = n*base + uint64(strings.IndexRune("0123456789abcdef", c))
	}
	return int32(uint32(n))
}

func modelProgram(all []modelToken) leaf {
	l := leaf{kind: api.TermProgram}
	for len(all) > 0 {
		k := leaf{text: all[1].text, at: all[0].at}
		if all[0].class == "array" {
			k.kind, k.n = api.TermArray, modelNumber(all[3])
			all = all[6:]
		} else {
			names, rest := group(all[2:])
			for _, t := range names {
				if t.class == "NAME" {
					k.kids = append(k.kids, leaf{kind: api.TermName, text: t.text, at: t.at})
				}
			}
			block, behind := modelBlock(rest)
			k.kind, k.kids = api.TermFunction, append(k.kids, block)
			all = behind
		}
		l.kids = append(l.kids, k)
	}
	return l
}

func modelBlock(all []modelToken) (leaf, []modelToken) {
	l := leaf{kind: api.TermBlock, at: all[0].at}
	inner, rest := group(all)
	for len(inner) > 0 {
		var k leaf
		k, inner = modelStatement(inner)
		l.kids = append(l.kids, k)
	}
	return l, rest
}

func modelStatement(all []modelToken) (leaf, []modelToken) {
	l := leaf{at: all[0].at}
	switch all[0].class {
	case "if":
		value, rest := cut(all[1:], "{")
		l.kind, l.kids = api.TermIf, []leaf{modelValue(value), {}}
		l.kids[1], rest = modelBlock(rest)
		if len(rest) > 0 && rest[0].class == "else" {
			var other leaf
			other, rest = modelBlock(rest[1:])
			l.kids = append(l.kids, other)
		}
		return l, rest
	case "while":
		value, rest := cut(all[1:], "bound")
		block, behind := modelBlock(rest[2:])
		l.kind, l.n, l.kids = api.TermWhile, modelNumber(rest[1]), []leaf{modelValue(value), block}
		return l, behind
	case "forever":
		block, rest := modelBlock(all[1:])
		l.kind, l.kids = api.TermForever, []leaf{block}
		return l, rest
	}
	line, rest := cut(all, ";")
	rest = rest[1:]
	left, right := cut(line, "=")
	switch {
	case line[0].class == "return":
		l.kind, l.kids = api.TermReturn, []leaf{modelValue(line[1:])}
	case right == nil:
		l.kind, l.kids = api.TermDo, []leaf{modelValue(line)}
	case left[0].class == "var":
		l.kind, l.text, l.kids = api.TermVar, left[1].text, []leaf{modelValue(right[1:])}
	case len(left) == 1:
		l.kind, l.text, l.kids = api.TermSet, left[0].text, []leaf{modelValue(right[1:])}
	default:
		l.kind, l.text, l.kids = api.TermPut, left[0].text, []leaf{modelValue(left[2 : len(left)-1]), modelValue(right[1:])}
	}
	return l, rest
}

// modelValue parts at the last binary sign of the lowest level that stands in no
// bracket: what stands ahead of it went together before.
func modelValue(all []modelToken) leaf {
	for _, level := range modelLevels {
		depth := 0
		for i := len(all) - 1; i > 0; i-- {
			t := all[i]
			if strings.Contains(")]", t.class) {
				depth++
			}
			if strings.Contains("([", t.class) {
				depth--
			}
			if depth == 0 && slices.Contains(level, t.class) && isValueEnd(all[i-1].class) {
				left, right := modelValue(all[:i]), modelValue(all[i+1:])
				return leaf{kind: api.TermBinary, text: t.text, kids: []leaf{left, right}, at: left.at}
			}
		}
	}
	l := leaf{text: all[0].text, at: all[0].at}
	switch {
	case slices.Contains([]string{"-", "~", "!"}, all[0].class):
		l.kind, l.kids = api.TermUnary, []leaf{modelValue(all[1:])}
	case all[0].class == "(":
		return modelValue(all[1 : len(all)-1])
	case all[0].class == "NUMBER":
		l.kind, l.text, l.n = api.TermNumber, "", modelNumber(all[0])
	case len(all) == 1:
		l.kind = api.TermName
	case all[1].class == "[":
		l.kind, l.kids = api.TermAt, []leaf{modelValue(all[2 : len(all)-1])}
	default:
		l.kind = api.TermCall
		for rest := all[2 : len(all)-1]; len(rest) > 0; {
			var one []modelToken
			one, rest = cut(rest, ",")
			l.kids = append(l.kids, modelValue(one))
			if len(rest) > 0 {
				rest = rest[1:]
			}
		}
	}
	return l
}
