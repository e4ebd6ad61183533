package asm

import (
	"strconv"
	"strings"

	"cloister/api"
)

// wordsMayBe: a source can have them, there.
func wordsMayBe(m api.Image) bool {
	return m.Origin%wordBytes == 0 && len(m.Words) <= api.MaxImage && placeBehind(m) <= placesEnd
}

func placeBehind(m api.Image) int64 {
	return int64(m.Origin) + wordBytes*int64(len(m.Words))
}

// labelsMayBe: a source can have them, in this order.
func labelsMayBe(m api.Image) bool {
	seen := map[string]int{}
	least := m.Origin
	for n, l := range m.Labels {
		if _, there := seen[l.Name]; there || !isName(l.Name) {
			return false
		}
		if l.At%wordBytes != 0 || l.At < least || int64(l.At) > placeBehind(m) {
			return false
		}
		seen[l.Name] = n
		least = l.At
	}
	return true
}

func sourceOf(m api.Image) string {
	var b strings.Builder
	b.WriteString(".org " + hexadecimal(m.Origin) + "\n")
	rest := m.Labels
	for n, w := range m.Words {
		at := m.Origin + wordBytes*uint32(n)
		for len(rest) > 0 && rest[0].At == at {
			b.WriteString(rest[0].Name + ":\n")
			rest = rest[1:]
		}
		b.WriteString("\t" + Line(w, at) + "\n")
	}
	for _, l := range rest {
		b.WriteString(l.Name + ":\n")
	}
	return b.String()
}

// hexadecimal has all eight digits.
func hexadecimal(n uint32) string {
	s := strconv.FormatUint(uint64(n), 16)
	return "0x" + strings.Repeat("0", 8-len(s)) + s
}
