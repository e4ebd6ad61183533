package deck_test

import (
	"encoding/hex"
	"fmt"
	"math/big"
	"regexp"
	"strings"

	"cloister/api"
	"cloister/asm"
)

// forms: what stands behind the first word of each line; any number of what has
// a star.
var forms = map[string]string{
	"pages": "N", "own": "N N", "cache": "N N N", "tlb": "N", "major": "T",
	"cell": "NAME N", "range": "N N N PERM", "lines": "N N*", "window": "CELL T T", "sample": "CELL N CELL*", "queue": "CELL CELL N N N KIND",
	"data": "CELL N HEX*", "more": "HEX HEX*", "code": "CELL",
}

var (
	numberForm = regexp.MustCompile(`^(0|[1-9][0-9]*|0x[0-9a-f]+)$`)
	patterns   = map[string]*regexp.Regexp{
		"N": numberForm, "T": numberForm,
		"NAME": regexp.MustCompile(`^[a-zA-Z0-9]{1,16}$`), "CELL": regexp.MustCompile(`^[a-zA-Z0-9]{1,16}$`),
		"PERM": regexp.MustCompile(`^(-|r|r?w|r?w?x)$`), "KIND": regexp.MustCompile(`^(flow|oneway)$`), "HEX": regexp.MustCompile(`^([0-9a-f][0-9a-f])+$`),
	}
	mostOf  = map[string]*big.Int{"N": new(big.Int).SetUint64(1<<32 - 1), "T": new(big.Int).SetUint64(1<<64 - 1)}
	noBytes = regexp.MustCompile(`[^\t\x20-\x7e]`)
	endForm = regexp.MustCompile(`^[ \t]*end[ \t]*(#|$)`)
)

// model reads a deck by the chapter's words.
type model struct {
	said   map[string]bool
	coded  bool
	config api.Config
	loads  []api.Load
}

// modelParse is what Parse should answer.
func modelParse(s string) (api.Config, []api.Load, api.Errno, int) {
	if len(s) > 20000 {
		return api.Config{}, nil, api.ErrDeckLong, 0
	}
	m := model{said: map[string]bool{}}
	all := strings.Split(s, "\n")
	for n := 0; n < len(all); n++ {
		e, more := m.line(all[n], all[n+1:])
		if n += more; e != api.OK {
			return api.Config{}, nil, e, n + 1
		}
	}
	return m.config, m.loads, api.OK, 0
}

// line tells how many lines further the error is, or reading goes on.
func (m *model) line(text string, behind []string) (api.Errno, int) {
	text, _, _ = strings.Cut(text, "#")
	if noBytes.Find([]byte(text)) != nil {
		return api.ErrDeckToken, 0
	}
	words := strings.Fields(text)
	if len(words) == 0 {
		return api.OK, 0
	}
	kinds, ok := m.kinds(words[0], len(words)-1)
	if !ok || m.lacks(words[0]) {
		return api.ErrDeckSyntax, 0
	}
	for n, kind := range kinds {
		if e := m.word(kind, words[n+1]); e != api.OK {
			return e, 0
		}
	}
	if m.isTwice(words[0], words[1]) {
		return api.ErrDeckTwice, 0
	}
	m.said[words[0]] = true
	if words[0] == "code" {
		return m.code(m.cell(words[1]), behind)
	}
	m.say(words[0], words[1:])
	return api.OK, 0
}

// kinds of so many words.
func (m *model) kinds(first string, n int) ([]string, bool) {
	form, ok := forms[first]
	kinds := strings.Fields(form)
	if last := len(kinds) - 1; ok && strings.HasSuffix(kinds[last], "*") {
		again := strings.TrimSuffix(kinds[last], "*")
		for kinds = kinds[:last]; len(kinds) < n; {
			kinds = append(kinds, again)
		}
	}
	return kinds, ok && len(kinds) == n
}

func (m *model) lacks(first string) bool {
	switch first {
	case "range", "lines":
		return len(m.config.Cells) == 0
	case "more":
		return len(m.loads) == 0 || m.coded
	}
	return false
}

func (m *model) word(kind, word string) api.Errno {
	switch {
	case !patterns[kind].MatchString(word):
		return api.ErrDeckSyntax
	case mostOf[kind] != nil && numberOf(word).Cmp(mostOf[kind]) > 0:
		return api.ErrDeckRange
	case kind == "CELL" && m.cell(word) == 0:
		return api.ErrDeckName
	}
	return api.OK
}

func (m *model) isTwice(first, second string) bool {
	if first == "cell" {
		return m.cell(second) > 0
	}
	return m.said[first] && strings.Contains(" pages own cache tlb major ", " "+first+" ")
}

func (m *model) cell(name string) int {
	for n, c := range m.config.Cells {
		if c.Name == name {
			return n + 1
		}
	}
	return 0
}

func (m *model) code(cell int, behind []string) (api.Errno, int) {
	for n, text := range behind {
		if !endForm.MatchString(text) {
			continue
		}
		source := strings.Join(append(behind[:n:n], ""), "\n")
		image, e, line := asm.Assemble(source)
		if e != api.OK {
			return api.ErrDeckSource, line
		}
		l := api.Load{Cell: cell, At: image.Origin}
		for _, w := range image.Words {
			l.Data = fmt.Appendf(l.Data, "%c%c%c%c", 0, 0, 0, 0)
			for i := range 4 {
				l.Data[len(l.Data)-4+i] = byte(w / (1 << (8 * i)))
			}
		}
		m.loads, m.coded = append(m.loads, l), true
		return api.OK, n + 1
	}
	return api.ErrDeckSyntax, 0
}

func numberOf(word string) *big.Int {
	n, _ := new(big.Int).SetString(word, 0)
	return n
}

func (m *model) say(first string, words []string) {
	long := func(n int) uint64 { return numberOf(words[n]).Uint64() }
	count := func(n int) int { return int(long(n)) }
	at := func(n int) uint32 { return uint32(long(n)) }
	data := func(n int) []byte {
		b, _ := hex.DecodeString(strings.Join(words[n:], ""))
		return b
	}
	g := &m.config
	switch first {
	case "pages":
		g.Pages = count(0)
	case "own":
		g.OwnBase, g.OwnPages = at(0), count(1)
	case "cache":
		g.Shape.Sets, g.Shape.Ways, g.Shape.Line = count(0), count(1), count(2)
	case "tlb":
		g.Slots = count(0)
	case "major":
		g.Major = long(0)
	case "cell":
		g.Cells = append(g.Cells, api.Cell{Name: words[0], Entry: at(1)})
	case "range":
		c := &g.Cells[len(g.Cells)-1]
		c.Ranges = append(c.Ranges, api.Range{Virtual: at(0), Physical: at(1), Pages: count(2), Perm: permOf(words[3])})
	case "lines":
		c := &g.Cells[len(g.Cells)-1]
		for n := range words {
			c.Lines = append(c.Lines, count(n))
		}
	case "window":
		g.Windows = append(g.Windows, api.Window{Cell: m.cell(words[0]), Start: long(1), Length: long(2)})
	case "sample":
		p := api.Sample{Writer: m.cell(words[0]), Size: count(1)}
		for _, w := range words[2:] {
			p.Readers = append(p.Readers, m.cell(w))
		}
		g.Samples = append(g.Samples, p)
	case "queue":
		g.Queues = append(g.Queues, api.Queue{Writer: m.cell(words[0]), Reader: m.cell(words[1]), Size: count(2), Depth: count(3), Quota: count(4), Flow: words[5] == "flow"})
	case "data":
		m.loads, m.coded = append(m.loads, api.Load{Cell: m.cell(words[0]), At: at(1), Data: data(2)}), false
	case "more":
		l := &m.loads[len(m.loads)-1]
		l.Data = append(l.Data, data(0)...)
	}
}

func permOf(word string) api.Perm {
	var p api.Perm
	for n, letter := range "rwx" {
		if strings.ContainsRune(word, letter) {
			p |= 1 << n
		}
	}
	return p
}

// modelPrint is what Print should write of what may be written.
func modelPrint(g api.Config, loads []api.Load) string {
	var b strings.Builder
	name := func(n int) string { return g.Cells[n-1].Name }
	fmt.Fprintf(&b, "pages %d\nown 0x%08x %d\ncache %d %d %d\ntlb %d\nmajor %d\n", g.Pages, g.OwnBase, g.OwnPages, g.Shape.Sets, g.Shape.Ways, g.Shape.Line, g.Slots, g.Major)
	for _, c := range g.Cells {
		fmt.Fprintf(&b, "cell %s 0x%08x\n", c.Name, c.Entry)
		for _, r := range c.Ranges {
			perm := ""
			for n, letter := range []string{"r", "w", "x"} {
				if r.Perm>>n&1 == 1 {
					perm += letter
				}
			}
			if perm == "" {
				perm = "-"
			}
			fmt.Fprintf(&b, "range 0x%08x 0x%08x %d %s\n", r.Virtual, r.Physical, r.Pages, perm)
		}
		if len(c.Lines) > 0 {
			fmt.Fprintf(&b, "lines %s\n", strings.Trim(fmt.Sprint(c.Lines), "[]"))
		}
	}
	for _, w := range g.Windows {
		fmt.Fprintf(&b, "window %s %d %d\n", name(w.Cell), w.Start, w.Length)
	}
	for _, p := range g.Samples {
		fmt.Fprintf(&b, "sample %s %d", name(p.Writer), p.Size)
		for _, r := range p.Readers {
			fmt.Fprintf(&b, " %s", name(r))
		}
		fmt.Fprintln(&b)
	}
	for _, q := range g.Queues {
		fmt.Fprintf(&b, "queue %s %s %d %d %d %s\n", name(q.Writer), name(q.Reader), q.Size, q.Depth, q.Quota, map[bool]string{true: "flow", false: "oneway"}[q.Flow])
	}
	for _, l := range loads {
		row := strings.TrimSuffix(regexp.MustCompile(`.{32}`).ReplaceAllString(hex.EncodeToString(l.Data), "$0\nmore "), "\nmore ")
		fmt.Fprintln(&b, strings.TrimRight(fmt.Sprintf("data %s 0x%08x %s", name(l.Cell), l.At, row), " "))
	}
	return b.String()
}
