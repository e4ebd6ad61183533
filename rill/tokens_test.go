package rill_test

import (
	"math/big"
	"regexp"
	"slices"
	"strings"

	"cloister/api"
)

// The model reads a source as the chapter's words say it, by means that the
// program has not: tokens by regular expressions, the grammar as a list of rules
// (grammar_test.go), trees by parting rows of tokens (model_test.go).

var (
	modelKeywords = strings.Fields("array func var if else while bound forever return")
	modelBuiltIns = strings.Fields("say who left clock wait halt mask pending write read send recv told")
	modelSigns    = strings.Fields("( ) [ ] { } , ; = == != < <= > >= << >> + - * / % & && | || ^ ~ !")
	modelLevels   = [][]string{{"||"}, {"&&"}, {"|"}, {"^"}, {"&"}, {"==", "!="}, {"<", "<=", ">", ">="}, {"<<", ">>"}, {"+", "-"}, {"*", "/", "%"}}

	gap       = regexp.MustCompile(`^(?:[ \t\n\r]|#[^\n]*)*`)
	word      = regexp.MustCompile(`^[A-Za-z_][A-Za-z_0-9]*`)
	numeral   = regexp.MustCompile(`^(?:0x[0-9a-f]+|0|[1-9][0-9]*)`)
	ofAWord   = regexp.MustCompile(`^[A-Za-z_0-9]`)
	wholeName = regexp.MustCompile(`^[A-Za-z_][A-Za-z_0-9]{0,15}$`)
	aboveAll  = big.NewInt(1 << 32)
)

// modelToken has a class: what it is for the grammar.
type modelToken struct {
	text, class string
	at          int
	e           api.Errno // if it is none, or too great
}

func modelIsName(s string) bool {
	return wholeName.MatchString(s) && !slices.Contains(modelKeywords, s) && !slices.Contains(modelBuiltIns, s)
}

// modelTokens are all of a source, up to the first that is none, or its end.
func modelTokens(s string) []modelToken {
	var all []modelToken
	for at := 0; ; {
		at += len(gap.FindString(s[at:]))
		t := modelToken{at: at, class: "END"}
		if at < len(s) {
			t = modelTokenAt(s[at:], at)
		}
		all = append(all, t)
		if t.e != api.OK || t.class == "END" {
			return all
		}
		at += len(t.text)
	}
}

func modelTokenAt(s string, at int) modelToken {
	if w := word.FindString(s); w != "" {
		class := "none"
		switch {
		case slices.Contains(modelKeywords, w):
			class = w
		case slices.Contains(modelBuiltIns, w):
			class = "BUILTIN"
		case modelIsName(w):
			class = "NAME"
		}
		return modelToken{text: w, class: class, at: at}
	}
	if n := numeral.FindString(s); n != "" {
		t := modelToken{text: n, class: "NUMBER", at: at}
		value, _ := new(big.Int).SetString(n, 0)
		if ofAWord.MatchString(s[len(n):]) {
			t.e = api.ErrRillToken
		} else if value.Cmp(aboveAll) >= 0 {
			t.e = api.ErrRillRange
		}
		return t
	}
	best := ""
	for _, x := range modelSigns {
		if strings.HasPrefix(s, x) && len(x) > len(best) {
			best = x
		}
	}
	if best == "" {
		return modelToken{at: at, e: api.ErrRillToken}
	}
	return modelToken{text: best, class: best, at: at}
}

func isValueEnd(class string) bool {
	return slices.Contains([]string{"NAME", "NUMBER", ")", "]"}, class)
}

// modelTooDeep tells the first token ahead of which 40 brackets and unary signs
// are not at an end; -1: there is none. The tokens may all stand there.
func modelTooDeep(all []modelToken) int {
	var open []string
	endUnary := func() {
		for len(open) > 0 && open[len(open)-1] == "unary" {
			open = open[:len(open)-1]
		}
	}
	before := ""
	for i, t := range all {
		ended := isValueEnd(before)
		unary := slices.Contains([]string{"-", "~", "!"}, t.class) && !ended
		behindName := ended && before == "NAME" || before == "BUILTIN"
		switch {
		case unary || t.class == "(" || t.class == "[" || t.class == "{":
			if t.class == "{" || ended && !behindName {
				endUnary()
			}
			if len(open) >= 40 {
				return i
			}
			if unary {
				open = append(open, "unary")
			} else {
				open = append(open, t.class)
			}
		case t.class == ")" || t.class == "]" || t.class == "}":
			endUnary()
			if len(open) > 0 {
				open = open[:len(open)-1]
			}
		case ended:
			endUnary()
		}
		before = t.class
	}
	return -1
}
