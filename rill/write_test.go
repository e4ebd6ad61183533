package rill_test

import (
	"fmt"
	"math/rand"
	"slices"
	"strings"

	"cloister/api"
)

// line is a line as it is printed. Of a unary sign the token has a u ahead.
type line struct {
	tabs   int
	tokens []string
}

// scribe writes trees; one with a random source writes more brackets than it
// must, and numbers in both ways.
type scribe struct {
	random *rand.Rand
	lines  []line
}

func (s *scribe) lay(tabs int, tokens ...string) { s.lines = append(s.lines, line{tabs, tokens}) }

func (s *scribe) chance(n int) bool { return s.random != nil && s.random.Intn(n) == 0 }

func (s *scribe) number(n int32) string {
	if s.chance(3) {
		return fmt.Sprintf("0x%0*x", 1+s.random.Intn(9), uint32(n))
	}
	return fmt.Sprint(uint32(n))
}

func (s *scribe) program(t api.Term) {
	for _, k := range t.Kids {
		if k.Kind == api.TermArray {
			s.lay(0, "array", k.Text, "[", s.number(k.N), "]", ";")
			continue
		}
		head := []string{"func", k.Text, "("}
		last := len(k.Kids) - 1
		for i, x := range k.Kids[:last] {
			if i > 0 {
				head = append(head, ",")
			}
			head = append(head, x.Text)
		}
		s.lay(0, append(head, ")", "{")...)
		s.statements(k.Kids[last], 1)
		s.lay(0, "}")
	}
}

func (s *scribe) statements(block api.Term, tabs int) {
	for _, t := range block.Kids {
		kids := t.Kids
		switch t.Kind {
		case api.TermVar:
			s.lay(tabs, slices.Concat([]string{"var", t.Text, "="}, s.value(kids[0]), []string{";"})...)
		case api.TermSet:
			s.lay(tabs, slices.Concat([]string{t.Text, "="}, s.value(kids[0]), []string{";"})...)
		case api.TermPut:
			s.lay(tabs, slices.Concat([]string{t.Text, "["}, s.value(kids[0]), []string{"]", "="}, s.value(kids[1]), []string{";"})...)
		case api.TermReturn:
			s.lay(tabs, slices.Concat([]string{"return"}, s.value(kids[0]), []string{";"})...)
		case api.TermDo:
			s.lay(tabs, append(s.value(kids[0]), ";")...)
		case api.TermIf:
			s.lay(tabs, slices.Concat([]string{"if"}, s.value(kids[0]), []string{"{"})...)
			s.statements(kids[1], tabs+1)
			if len(kids) == 3 {
				s.lay(tabs, "}", "else", "{")
				s.statements(kids[2], tabs+1)
			}
			s.lay(tabs, "}")
		case api.TermWhile:
			s.lay(tabs, slices.Concat([]string{"while"}, s.value(kids[0]), []string{"bound", s.number(t.N), "{"})...)
			s.statements(kids[1], tabs+1)
			s.lay(tabs, "}")
		case api.TermForever:
			s.lay(tabs, "forever", "{")
			s.statements(kids[0], tabs+1)
			s.lay(tabs, "}")
		}
	}
}

func modelLevel(sign string) int {
	return slices.IndexFunc(modelLevels, func(l []string) bool { return slices.Contains(l, sign) })
}

// inner is a value within another one: in brackets, if it must be.
func (s *scribe) inner(t api.Term, must func(level int) bool) []string {
	v := s.value(t)
	if t.Kind == api.TermBinary && must(modelLevel(t.Text)) {
		return slices.Concat([]string{"("}, v, []string{")"})
	}
	return v
}

func (s *scribe) value(t api.Term) []string {
	v := s.bare(t)
	if s.chance(6) {
		v = slices.Concat([]string{"("}, v, []string{")"})
	}
	return v
}

func (s *scribe) bare(t api.Term) []string {
	switch t.Kind {
	case api.TermNumber:
		return []string{s.number(t.N)}
	case api.TermName:
		return []string{t.Text}
	case api.TermAt:
		return slices.Concat([]string{t.Text, "["}, s.value(t.Kids[0]), []string{"]"})
	case api.TermUnary:
		return append([]string{"u" + t.Text}, s.inner(t.Kids[0], func(int) bool { return true })...)
	case api.TermBinary:
		own := modelLevel(t.Text)
		left := s.inner(t.Kids[0], func(level int) bool { return own > level })
		right := s.inner(t.Kids[1], func(level int) bool { return own >= level })
		return slices.Concat(left, []string{t.Text}, right)
	}
	all := []string{t.Text, "("}
	for i, k := range t.Kids {
		if i > 0 {
			all = append(all, ",")
		}
		all = append(all, s.value(k)...)
	}
	return append(all, ")")
}

// modelText: no blank stands where none may.
func modelText(t api.Term) string {
	var s scribe
	s.program(t)
	var b strings.Builder
	for _, l := range s.lines {
		b.WriteString(strings.Repeat("\t", l.tabs))
		before := ""
		for i, x := range l.tokens {
			named := modelIsName(before) || slices.Contains(modelBuiltIns, before)
			unary := len(before) > 1 && before[0] == 'u' && !modelIsName(before)
			if i > 0 && before != "(" && before != "[" && !unary && x != ")" && x != "]" && x != "," && x != ";" && !(named && (x == "(" || x == "[")) {
				b.WriteString(" ")
			}
			if strings.HasPrefix(x, "u") && !modelIsName(x) {
				b.WriteString(x[1:])
			} else {
				b.WriteString(x)
			}
			before = x
		}
		b.WriteString("\n")
	}
	return b.String()
}

// anyTokens are those of a source of the tree.
func anyTokens(random *rand.Rand, t api.Term) []string {
	s := scribe{random: random}
	s.program(t)
	var all []string
	for _, l := range s.lines {
		for _, x := range l.tokens {
			if strings.HasPrefix(x, "u") && !modelIsName(x) {
				x = x[1:]
			}
			all = append(all, x)
		}
	}
	return all
}

var gaps = []string{" ", "  ", "\t", "\n", "\r\n", "\n\n\t", " # } x = 1; \x00\xff\n", "#\n", "\t#a#b\r\n"}

// anyGaps joins tokens; mostly there is no more between them than must be.
func anyGaps(random *rand.Rand, tokens []string) string {
	var b strings.Builder
	for i, x := range tokens {
		glued := i > 0 && x != "" && tokens[i-1] != "" && ofAWord.MatchString(x) && ofAWord.MatchString(tokens[i-1][len(tokens[i-1])-1:])
		switch {
		case random.Intn(5) == 0:
			b.WriteString(gaps[random.Intn(len(gaps))])
		case glued || random.Intn(3) == 0:
			b.WriteString(" ")
		}
		b.WriteString(x)
	}
	return b.String() + []string{"", "\n", " ", "# x", "\n#"}[random.Intn(5)]
}
