package lab_test

import (
	"encoding/hex"
	"fmt"
	"math/big"
	"regexp"
	"slices"
	"strconv"
	"strings"

	"cloister/api"
	"cloister/config"
	"cloister/deck"
	"cloister/graph"
	"cloister/monitor"
	"cloister/trace"
)

var (
	commandForm = regexp.MustCompile(`^(now|boot|print)$|^(run|trace|digest|regs|stat|sources) N$|^irq N N$|^(save|load|keep) M$|^peek N A N$|^part N M$`)
	numberForm  = regexp.MustCompile(`^(0|[1-9][0-9]*)$`)
	addressForm = regexp.MustCompile(`^[0-9a-f]{8}$`)
	nameForm    = regexp.MustCompile(`^[a-z0-9]{1,16}$`)
	otherBytes  = regexp.MustCompile(`[^\x20-\x7e]`)
	most, _     = new(big.Int).SetString("9223372036854775807", 10)
)

// mayStand tells whether words are a command, whatever else they could be.
func mayStand(words []string) bool {
	forms := []string{words[0]}
	for _, w := range words[1:] {
		var next []string
		for _, f := range forms {
			if n, ok := new(big.Int).SetString(w, 10); ok && numberForm.MatchString(w) && n.Cmp(most) <= 0 {
				next = append(next, f+" N")
			}
			if addressForm.MatchString(w) {
				next = append(next, f+" A")
			}
			if nameForm.MatchString(w) {
				next = append(next, f+" M")
			}
		}
		forms = next
	}
	return slices.ContainsFunc(forms, commandForm.MatchString)
}

// modelRead is all commands, with a deck's text as the second word; or the first
// wrong line.
func modelRead(script string) ([][]string, int) {
	var all [][]string
	texts := strings.Split(script, "\n")
	for n := 0; n < len(texts); n++ {
		words := strings.Fields(texts[n])
		switch {
		case otherBytes.Find([]byte(texts[n])) != nil:
			return nil, n + 1
		case len(words) == 0 || words[0][0] == '#':
		case slices.Equal(words, []string{"deck"}):
			end := n + 1
			for ; end < len(texts) && texts[end] != "%%"; end++ {
			}
			if end == len(texts) {
				return nil, n + 1
			}
			all = append(all, []string{"deck", strings.Join(texts[n+1:end], "\n")})
			n = end
		case mayStand(words):
			all = append(all, words)
		default:
			return nil, n + 1
		}
	}
	return all, 0
}

type modelSaved struct {
	state api.State
	seen  []api.Obs
}

// model does a script by the chapter's words.
type model struct {
	out                       []string
	isDeck                    bool
	config                    api.Config
	loads                     []api.Load
	machine                   *monitor.Monitor
	seen                      []api.Obs
	saved                     map[string]modelSaved
	kept                      map[string][]api.Obs
	ticks, traced, held, work int
}

// modelRun is what Run should answer.
func modelRun(script string) (string, int, api.Errno) {
	if len(script) > 20000 {
		return "", 0, 250
	}
	all, wrong := modelRead(script)
	if wrong > 0 {
		return "", wrong, 251
	}
	m := model{saved: map[string]modelSaved{}, kept: map[string][]api.Obs{}}
	for _, words := range all {
		m.do(words)
	}
	return strings.Join(append(m.out, ""), "\n"), 0, api.OK
}

func (m *model) tell(all ...any) {
	m.out = append(m.out, strings.TrimSuffix(fmt.Sprintln(all...), "\n"))
}

// tellOr tells what there is, or the error.
func (m *model) tellOr(e api.Errno, all ...any) {
	if e != api.OK {
		m.tell("error", int(e))
		return
	}
	m.tell(all...)
}

func (m *model) lacks(words []string) bool {
	last := words[len(words)-1]
	switch words[0] {
	case "deck":
		return false
	case "boot", "sources", "print":
		return !m.isDeck
	case "load":
		_, there := m.saved[last]
		return !there
	case "part":
		_, there := m.kept[last]
		return !there || m.machine == nil
	}
	return m.machine == nil
}

func whole(word string) int {
	n, _ := strconv.Atoi(word)
	return n
}

func (m *model) do(words []string) {
	if m.lacks(words) {
		m.tell("none")
		return
	}
	switch words[0] {
	case "deck", "print", "sources", "boot":
		m.ofDeck(words)
	case "save", "load", "keep":
		m.hold(words[0], words[1])
	case "trace", "digest", "part":
		m.ofSeen(words)
	default:
		m.ofMachine(words)
	}
}

func (m *model) ofDeck(words []string) {
	switch words[0] {
	case "deck":
		g, l, e, line := deck.Parse(words[1] + "\n")
		if e != api.OK {
			m.tell("error", int(e), line)
			return
		}
		m.isDeck, m.config, m.loads, m.machine = true, g, l, nil
		m.tell("ok", len(g.Cells))
	case "print":
		s, e := deck.Print(m.config, m.loads...)
		all := strings.Split(s, "\n")
		m.tellOr(e, "print", len(all)-1)
		m.out = append(m.out, all[:len(all)-1]...)
	case "sources":
		m.tell(strings.Trim(fmt.Sprint("sources ", strings.Trim(fmt.Sprint(graph.Sources(m.config, whole(words[1]))), "[]")), " "))
	case "boot":
		blob, e := config.Encode(m.config)
		if e != api.OK {
			m.tellOr(e)
			return
		}
		machine, e := monitor.New(blob, m.loads...)
		if e == api.OK {
			m.machine, m.seen = machine, nil
		}
		m.tellOr(e, "ok")
	}
}

// hold saves by states, not by bytes.
func (m *model) hold(what, name string) {
	if m.held == 16 {
		m.tell("error 250")
		return
	}
	m.held++
	m.tell("ok")
	switch what {
	case "save":
		m.saved[name] = modelSaved{m.machine.State(), append([]api.Obs{}, m.seen...)}
	case "keep":
		m.kept[name] = append([]api.Obs{}, m.seen...)
	default:
		s := m.saved[name]
		machine, e := monitor.Resume(s.state)
		if e != api.OK {
			panic(e)
		}
		m.machine, m.seen = machine, append([]api.Obs{}, s.seen...)
	}
}

func (m *model) ofSeen(words []string) {
	var own []api.Obs
	for _, o := range m.seen {
		if words[1] == "0" || fmt.Sprint(o.Cell) == words[1] {
			own = append(own, o)
		}
	}
	work := len(m.seen)
	switch words[0] {
	case "trace":
		if m.traced+len(own) > 20000 {
			m.tell("error 250")
			return
		}
		m.traced += len(own)
		m.tell("trace", len(own))
		s, _ := trace.Text(own...)
		m.out = append(m.out, strings.Split(s, "\n")[:len(own)]...)
		return
	case "part":
		work += len(m.kept[words[2]])
	}
	if m.work+work > 1000000 {
		m.tell("error 250")
		return
	}
	m.work += work
	if words[0] == "part" {
		m.tell("part", m.part(whole(words[1]), m.kept[words[2]]))
		return
	}
	sum := trace.Digest(whole(words[1]), m.seen...)
	if words[1] == "0" {
		for _, cell := range []int{8, 7, 6, 5, 4, 3, 2, 1} {
			sum ^= trace.Digest(cell, m.seen...)
		}
	}
	m.tell(fmt.Sprintf("digest %08x", sum))
}

func (m *model) part(cell int, kept []api.Obs) int {
	other := func(o api.Obs) bool { return o.Cell != cell }
	a, b := slices.DeleteFunc(slices.Clone(m.seen), other), slices.DeleteFunc(slices.Clone(kept), other)
	for n := range max(len(a), len(b)) {
		if n >= len(a) || n >= len(b) || a[n] != b[n] {
			return n
		}
	}
	return -1
}

func (m *model) ofMachine(words []string) {
	one := 0
	if len(words) > 1 {
		one = whole(words[1])
	}
	switch words[0] {
	case "irq":
		m.tellOr(m.machine.Script(api.Arrival{Tick: uint64(one), Line: whole(words[2])}), "ok")
	case "run":
		on := max(0, one-int(m.machine.Now()))
		if on > 100000-m.ticks {
			m.tell("error 250")
			return
		}
		m.ticks += on
		l, e := m.machine.Run(uint64(one))
		m.seen = append(m.seen, l...)
		m.tellOr(e, "ok", len(l))
	case "now":
		m.tell("now", m.machine.Now())
	case "regs":
		c, e := m.machine.Cell(one)
		s := fmt.Sprintf("regs %08x", c.Regs.PC)
		for n := 1; n <= 15; n++ {
			s += fmt.Sprintf(" %08x", c.Regs.R[n])
		}
		m.tellOr(e, s+map[bool]string{true: " halted"}[c.Halted])
	case "peek":
		if n := whole(words[3]); n > 1024 {
			m.tell("error 250")
			return
		}
		at, _ := strconv.ParseUint(words[2], 16, 32)
		b, e := m.machine.Peek(one, uint32(at), whole(words[3]))
		m.tellOr(e, "=", hex.EncodeToString(b)+map[bool]string{true: "-"}[len(b) == 0])
	case "stat":
		q, e := m.machine.Stat(one)
		m.tellOr(e, "stat", q.Accepted, q.Received, q.Queued, q.Staged, q.Lost)
	}
}
