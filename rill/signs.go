package rill

import "strings"

const (
	unarySigns   = "-~!"
	otherSigns   = "()[]{},;=~!" // those that are not binary
	longestSign  = 2
	lowestLevel  = 1
	aboveBinary  = 11 // what binds more than all binary signs
	noBinarySign = 0
)

// binarySign stands on a level; that of the sign that binds least is the lowest.
type binarySign struct {
	text  string
	level int
}

var binarySigns = [...]binarySign{
	{"||", 1},
	{"&&", 2},
	{"|", 3},
	{"^", 4},
	{"&", 5},
	{"==", 6}, {"!=", 6},
	{"<", 7}, {"<=", 7}, {">", 7}, {">=", 7},
	{"<<", 8}, {">>", 8},
	{"+", 9}, {"-", 9},
	{"*", 10}, {"/", 10}, {"%", 10},
}

func levelOf(text string) int {
	for _, s := range binarySigns {
		if s.text == text {
			return s.level
		}
	}
	return noBinarySign
}

func isBinary(text string) bool { return levelOf(text) != noBinarySign }

func isUnary(text string) bool { return isOneOf(text, unarySigns) }

func isSign(text string) bool { return isBinary(text) || isOneOf(text, otherSigns) }

// isOneOf: signs of one byte each.
func isOneOf(text, signs string) bool { return len(text) == 1 && strings.Contains(signs, text) }

// signAhead is the longest sign that a text begins with.
func signAhead(text string) string {
	for n := min(longestSign, len(text)); n > 0; n-- {
		if isSign(text[:n]) {
			return text[:n]
		}
	}
	return ""
}
