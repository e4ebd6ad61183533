package rill

import (
	"strconv"
	"strings"

	"cloister/api"
)

// sheet is what is written, of a tree that may be.
type sheet struct {
	strings.Builder
	blocks int // around what is written
}

func (s *sheet) write(texts ...string) {
	for _, t := range texts {
		s.WriteString(t)
	}
}

func (s *sheet) tabs() { s.write(strings.Repeat("\t", s.blocks)) }

func (s *sheet) program(t api.Term) {
	for _, k := range t.Kids {
		if k.Kind == api.TermArray {
			s.write("array ", k.Text, "[", decimal(k.N), "];\n")
		} else {
			s.function(k)
		}
	}
}

func decimal(n int32) string { return strconv.FormatUint(uint64(uint32(n)), 10) }

func (s *sheet) function(t api.Term) {
	last := len(t.Kids) - 1
	s.write("func ", t.Text)
	s.listed(t.Kids[:last])
	s.block(t.Kids[last])
	s.write("\n")
}

func (s *sheet) listed(values []api.Term) {
	s.write("(")
	for i, v := range values {
		if i > 0 {
			s.write(", ")
		}
		s.value(v, lowestLevel)
	}
	s.write(")")
}

// block goes on in the line of what it belongs to, and does not end its last one.
func (s *sheet) block(t api.Term) {
	s.write(" {\n")
	s.blocks++
	for _, k := range t.Kids {
		s.tabs()
		s.statement(k)
		s.write("\n")
	}
	s.blocks--
	s.tabs()
	s.write("}")
}

func (s *sheet) statement(t api.Term) {
	switch t.Kind {
	case api.TermVar:
		s.ended("var "+t.Text+" = ", t.Kids[0])
	case api.TermSet:
		s.ended(t.Text+" = ", t.Kids[0])
	case api.TermPut:
		s.at(t)
		s.ended(" = ", t.Kids[1])
	case api.TermIf:
		s.choice(t)
	case api.TermWhile:
		s.write("while ")
		s.value(t.Kids[0], lowestLevel)
		s.write(" bound ", decimal(t.N))
		s.block(t.Kids[1])
	case api.TermForever:
		s.write("forever")
		s.block(t.Kids[0])
	case api.TermReturn:
		s.ended("return ", t.Kids[0])
	case api.TermDo:
		s.ended("", t.Kids[0])
	}
}

func (s *sheet) ended(ahead string, v api.Term) {
	s.write(ahead)
	s.value(v, lowestLevel)
	s.write(";")
}

func (s *sheet) choice(t api.Term) {
	s.write("if ")
	s.value(t.Kids[0], lowestLevel)
	s.block(t.Kids[1])
	if len(t.Kids) > 2 {
		s.write(" else")
		s.block(t.Kids[2])
	}
}

// value stands in brackets, if its sign is of a lower level than that.
func (s *sheet) value(t api.Term, least int) {
	switch t.Kind {
	case api.TermNumber:
		s.write(decimal(t.N))
	case api.TermName:
		s.write(t.Text)
	case api.TermAt:
		s.at(t)
	case api.TermCall:
		s.write(t.Text)
		s.listed(t.Kids)
	case api.TermUnary:
		s.write(t.Text)
		s.value(t.Kids[0], aboveBinary)
	case api.TermBinary:
		if level := levelOf(t.Text); level >= least {
			s.binary(t, level)
			return
		}
		s.write("(")
		s.value(t, lowestLevel)
		s.write(")")
	}
}

// binary: those of one level go together from the left.
func (s *sheet) binary(t api.Term, level int) {
	s.value(t.Kids[0], level)
	s.write(" ", t.Text, " ")
	s.value(t.Kids[1], level+1)
}

// at is an array's place.
func (s *sheet) at(t api.Term) {
	s.write(t.Text, "[")
	s.value(t.Kids[0], lowestLevel)
	s.write("]")
}
