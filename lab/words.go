package lab

import (
	"strconv"
	"strings"

	"cloister/api"
)

const (
	blank     = " "
	newline   = "\n"
	comment   = "#"  // what the first word of a line begins with that says nothing
	endOfDeck = "%%" // the line behind a deck
	numerals  = "0123456789abcdef"

	wordDigits = 8  // of an address
	numberBits = 63 // of the greatest number
)

// isPlain: each byte is one of a word, or parts words.
func isPlain(text string) bool {
	for _, c := range []byte(text) {
		if c < ' ' || c > '~' {
			return false
		}
	}
	return true
}

// numberOf reads a number. It has one form alone: that in which it is written.
func numberOf(word string) (uint64, bool) {
	n, err := strconv.ParseUint(word, 10, numberBits)
	return n, err == nil && decimal(n) == word
}

func addressOf(word string) (uint64, bool) {
	n, err := strconv.ParseUint(word, 16, 32)
	return n, err == nil && hexadecimal(uint32(n)) == word
}

func isName(word string) bool {
	if word == "" || len(word) > api.MaxName {
		return false
	}
	for _, c := range []byte(word) {
		if !(c >= 'a' && c <= 'z' || c >= '0' && c <= '9') {
			return false
		}
	}
	return true
}

func decimal(n uint64) string { return strconv.FormatUint(n, 10) }

func hexadecimal(n uint32) string {
	s := strconv.FormatUint(uint64(n), 16)
	return strings.Repeat("0", wordDigits-len(s)) + s
}

// bytesWord is bytes as one word, two digits each.
func bytesWord(all []byte) string {
	if len(all) == 0 {
		return "-"
	}
	var w []byte
	for _, b := range all {
		w = append(w, numerals[b>>4], numerals[b&15])
	}
	return string(w)
}
