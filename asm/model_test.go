package asm_test

import (
	"math/big"
	"regexp"
	"strings"

	"cloister/api"
	"cloister/isa"
)

// The model reads a source by patterns: each line's tokens are written with a
// blank between them, and held against what a statement looks like so.

const (
	tokenLooks    = `^(?:[a-zA-Z_.][a-zA-Z0-9_.]*|-?(?:0x[0-9a-f]+|0|[1-9][0-9]*)|[,:()])`
	registerLooks = `r(?:[0-9]|1[0-5])`
)

var (
	tokenPattern    = regexp.MustCompile(tokenLooks)
	numberPattern   = regexp.MustCompile(`^-?[0-9]`)
	directlyBehind  = regexp.MustCompile(`^[a-zA-Z0-9_.]`)
	namePattern     = regexp.MustCompile(`^[a-zA-Z_][a-zA-Z0-9_]{0,15}$`)
	registerPattern = regexp.MustCompile(`^` + registerLooks + `$`)

	shapeByWord = shapesByWord()
)

// shape of a statement: its word, how its operands are written, and the texts
// of the instructions that it is (V stands for the value, H and L for its parts).
type shape struct {
	word, operands string
	texts          []string
}

// modelShapes: of all statements that come to instructions.
func modelShapes() []shape {
	var all []shape
	add := func(words, operands string) {
		for _, w := range strings.Fields(words) {
			all = append(all, shape{w, operands, []string{strings.TrimSpace(w + " " + operands)}})
		}
	}
	add("add sub mul divu remu and or xor shl shr sar slt sltu", "D, A, B")
	add("addi andi ori xori shli shri sari slti sltui jalr", "D, A, V")
	add("lui jal", "D, V")
	add("lb lbu lh lhu lw", "D, V(A)")
	add("sb sh sw", "B, V(A)")
	add("beq bne blt bge bltu bgeu", "A, B, V")
	add("hcall", "V")
	add("clock", "D")
	add("vec", "A")
	add("wait ei di eret halt nop", "")
	return append(all,
		shape{"li", "D, V", []string{"lui D, H", "ori D, D, L"}},
		shape{"mv", "D, A", []string{"addi D, A, 0"}},
		shape{"j", "V", []string{"jal r0, V"}},
		shape{"call", "V", []string{"jal r15, V"}},
		shape{"ret", "", []string{"jalr r0, r15, 0"}},
	)
}

func shapesByWord() map[string]shape {
	all := map[string]shape{}
	for _, s := range modelShapes() {
		all[s.word] = s
	}
	return all
}

// wordOfText finds the word of an instruction's text: by what isa.Text writes.
func wordOfText(text string) (uint32, bool) {
	fields := strings.FieldsFunc(text, func(r rune) bool { return strings.ContainsRune(" ,()", r) })
	op, ok := isa.Named(fields[0])
	if !ok {
		return 0, false
	}
	var registers []uint8
	imm := new(big.Int)
	for _, f := range fields[1:] {
		n, ok := new(big.Int).SetString(strings.TrimPrefix(f, "r"), 10)
		switch {
		case !ok:
			return 0, false
		case f[0] == 'r':
			registers = append(registers, uint8(n.Int64()))
		default:
			imm = n
		}
	}
	if imm.BitLen() > 30 {
		return 0, false
	}
	for _, i := range arranged(registers) {
		i.Op, i.Imm = op, int32(imm.Int64())
		if isa.Text(i) == text {
			w, e := isa.Encode(i)
			return w, e == api.OK
		}
	}
	return 0, false
}

// arranged puts registers, in their order or turned, wherever they could be.
func arranged(r []uint8) []api.Instr {
	switch len(r) {
	case 0:
		return []api.Instr{{}}
	case 1:
		return []api.Instr{{D: r[0]}, {A: r[0]}}
	case 2:
		return []api.Instr{{D: r[0], A: r[1]}, {A: r[0], B: r[1]}, {A: r[1], B: r[0]}}
	}
	return []api.Instr{{D: r[0], A: r[1], B: r[2]}}
}

// modelLine is what a line says.
type modelLine struct {
	labels   []string
	word     string
	operands []string // without the signs
	texts    []string
	letters  string // which operand is what
	first    int    // how many words are ahead of it
}

// modelTokens of a line, up to its comment.
func modelTokens(text string) ([]string, bool) {
	text = strings.SplitN(text, "#", 2)[0]
	var all []string
	for {
		text = strings.Trim(text, " \t")
		if text == "" {
			return all, true
		}
		t := tokenPattern.FindString(text)
		text = text[len(t):]
		if t == "" || numberPattern.MatchString(t) && directlyBehind.MatchString(text) {
			return nil, false
		}
		all = append(all, t)
	}
}

func modelName(s string) bool { return namePattern.MatchString(s) && !registerPattern.MatchString(s) }

func modelValue(s string) bool { return modelName(s) || numberPattern.MatchString(s) }

// operandsLike holds tokens against a shape's operands.
func operandsLike(tokens []string, operands string) ([]string, string, bool) {
	wants := strings.Fields(strings.NewReplacer(",", " , ", "(", " ( ", ")", " ) ").Replace(operands))
	var found []string
	letters := ""
	if len(wants) != len(tokens) {
		return nil, "", false
	}
	for n, want := range wants {
		t := tokens[n]
		switch want {
		case "D", "A", "B":
			if !registerPattern.MatchString(t) {
				return nil, "", false
			}
		case "V":
			if !modelValue(t) {
				return nil, "", false
			}
		case "N":
			if !numberPattern.MatchString(t) {
				return nil, "", false
			}
		default:
			if t != want {
				return nil, "", false
			}
			continue
		}
		found, letters = append(found, t), letters+want
	}
	return found, letters, true
}

// modelSyntax reads a line's tokens.
func modelSyntax(tokens []string) (modelLine, bool) {
	var l modelLine
	for len(tokens) > 1 && tokens[1] == ":" {
		if !modelName(tokens[0]) {
			return l, false
		}
		l.labels, tokens = append(l.labels, tokens[0]), tokens[2:]
	}
	if len(tokens) == 0 {
		return l, true
	}
	s, ok := shapeByWord[tokens[0]]
	switch tokens[0] {
	case ".org", ".zero":
		s, ok = shape{operands: "N"}, true
	case ".word":
		commas := strings.Count(strings.Join(tokens, ""), ",")
		s, ok = shape{operands: "V" + strings.Repeat(", V", commas)}, true
	}
	if !ok {
		return l, false
	}
	l.word, l.texts = tokens[0], s.texts
	l.operands, l.letters, ok = operandsLike(tokens[1:], s.operands)
	return l, ok
}

// model of a source that is read.
type model struct {
	lines  []modelLine
	moved  bool
	origin int64
	count  int64 // of words
	labels []api.Label
}

func (m *model) place() int64 { return m.origin + 4*m.count }

func (m *model) has(name string) bool {
	_, there := m.find(name)
	return there
}

func (m *model) find(name string) (int64, bool) {
	for _, l := range m.labels {
		if l.Name == name {
			return int64(l.At), true
		}
	}
	return 0, false
}

func modelNumber(s string) *big.Int {
	n, ok := new(big.Int).SetString(s, 0)
	if !ok {
		panic(s)
	}
	return n
}

func within(n *big.Int, least, most int64) bool {
	return n.Cmp(big.NewInt(least)) >= 0 && n.Cmp(big.NewInt(most)) <= 0
}

// read is the first time that a line is gone through.
func (m *model) read(text string) api.Errno {
	tokens, ok := modelTokens(text)
	if !ok {
		return api.ErrAsmToken
	}
	l, ok := modelSyntax(tokens)
	if !ok || l.word == ".org" && (m.moved || m.count > 0 || len(m.labels)+len(l.labels) > 0) {
		return api.ErrAsmSyntax
	}
	l.first = int(m.count)
	m.lines = append(m.lines, l)
	at := m.place()
	for _, name := range l.labels {
		if m.has(name) {
			return api.ErrAsmTwice
		}
		m.labels = append(m.labels, api.Label{Name: name, At: uint32(at)})
	}
	switch {
	case len(l.labels) > 0 && at > 4294967295:
		return api.ErrAsmRange
	case l.word == ".org":
		n := modelNumber(l.operands[0])
		if !within(n, 0, 4294967292) || n.Int64()%4 != 0 {
			return api.ErrAsmRange
		}
		m.moved, m.origin = true, n.Int64()
	case l.word == ".zero":
		n := modelNumber(l.operands[0])
		if !within(n, 0, 4096) {
			return api.ErrAsmRange
		}
		m.count += n.Int64()
	case l.word == ".word":
		m.count += int64(len(l.operands))
	default:
		m.count += int64(len(l.texts))
	}
	if m.count > 4096 || m.count > 0 && m.place()-4 > 4294967295 {
		return api.ErrAsmRange
	}
	return api.OK
}

// number for which a value stands.
func (m *model) number(l modelLine, v string) (*big.Int, api.Errno) {
	if numberPattern.MatchString(v) {
		return modelNumber(v), api.OK
	}
	at, there := m.find(v)
	if !there {
		return nil, api.ErrAsmName
	}
	switch l.word {
	case "beq", "bne", "blt", "bge", "bltu", "bgeu", "jal", "j", "call":
		at = (at - m.origin - 4*int64(l.first)) / 4
	}
	return big.NewInt(at), api.OK
}

// write is the second time that a line is gone through.
func (m *model) write(l modelLine) ([]uint32, api.Errno) {
	var words []uint32
	switch l.word {
	case ".org":
		return nil, api.OK
	case ".zero":
		return make([]uint32, modelNumber(l.operands[0]).Int64()), api.OK
	case ".word":
		for _, v := range l.operands {
			n, e := m.number(l, v)
			if e == api.OK && !within(n, -2147483648, 4294967295) {
				e = api.ErrAsmRange
			}
			if e != api.OK {
				return nil, e
			}
			words = append(words, uint32(n.Int64()))
		}
		return words, api.OK
	}
	put, e := m.replaced(l)
	if e != api.OK {
		return nil, e
	}
	for _, text := range l.texts {
		name, rest, _ := strings.Cut(text, " ")
		w, ok := wordOfText(strings.TrimSpace(name + " " + strings.NewReplacer(put...).Replace(rest)))
		if !ok {
			return nil, api.ErrAsmRange
		}
		words = append(words, w)
	}
	return words, api.OK
}

// replaced tells for each letter of a shape what stands in its place.
func (m *model) replaced(l modelLine) ([]string, api.Errno) {
	var put []string
	for n, letter := range strings.Split(l.letters, "") {
		if letter != "V" {
			put = append(put, letter, l.operands[n])
			continue
		}
		v, e := m.number(l, l.operands[n])
		if e == api.OK && l.word == "li" && !within(v, -2147483648, 4294967295) {
			e = api.ErrAsmRange
		}
		if e != api.OK {
			return nil, e
		}
		bits := new(big.Int).Mod(v, big.NewInt(1<<32))
		h, low := new(big.Int).DivMod(bits, big.NewInt(16384), new(big.Int))
		put = append(put, "V", v.String(), "H", h.String(), "L", low.String())
	}
	return put, api.OK
}

// modelAssemble is what Assemble should tell.
func modelAssemble(source string) (api.Image, api.Errno, int) {
	if len(source) > 20000 {
		return api.Image{}, api.ErrAsmLong, 0
	}
	var m model
	for n, text := range strings.Split(source, "\n") {
		if e := m.read(text); e != api.OK {
			return api.Image{}, e, n + 1
		}
	}
	image := api.Image{Origin: uint32(m.origin), Labels: m.labels}
	for n, l := range m.lines {
		words, e := m.write(l)
		if e != api.OK {
			return api.Image{}, e, n + 1
		}
		image.Words = append(image.Words, words...)
	}
	return image, api.OK, 0
}
