package lab_test

import (
	"fmt"
	"slices"
	"strconv"
	"strings"
	"testing"

	"cloister/api"
	"cloister/trace"
)

func textOf(t *testing.T, l []api.Obs) string {
	t.Helper()
	s, e := trace.Text(l...)
	if e != api.OK {
		t.Fatalf("trace.Text: %d", e)
	}
	return s
}

func digest(cell int, l []api.Obs) string {
	return fmt.Sprintf("digest %08x", trace.Digest(cell, l...))
}

// TestRun: up to a tick, again and again; how many observations came by it.
func TestRun(t *testing.T) {
	m := machineOf(t, pair)
	script, want := decked(pair)+"boot\n", []string{"ok 2", "ok"}
	for _, tick := range []uint64{0, 150, 150, 1, 900, 4000, 4001, 9000, 9000, 12345, 0, 40000} {
		l := runTo(t, m, tick)
		script += fmt.Sprintf("run %d\nnow\n", tick)
		want = append(want, fmt.Sprint("ok ", len(l)), fmt.Sprint("now ", m.Now()))
	}
	wantRun(t, script, want...)
}

// TestIrq: one arrival each; those that may not be, and those that are past.
func TestIrq(t *testing.T) {
	head := decked(pair) + "boot\n"
	wantRun(t, head+"irq 99 3\nirq 100 3\nirq 100 32\nirq 99 32\nirq 9223372036854775807 31\nirq 9223372036854775807 9223372036854775807\nirq 100 0",
		"ok 2", "ok", "error 211", "ok", "error 210", "error 210", "ok", "error 210", "ok")
	m := machineOf(t, pair)
	if e := m.Script(api.Arrival{Tick: 500, Line: 3}, api.Arrival{Tick: 5000, Line: 3}); e != api.OK {
		t.Fatalf("monitor.Script: %d", e)
	}
	l := runTo(t, m, 9000)
	irqs := slices.DeleteFunc(slices.Clone(l), func(o api.Obs) bool { return o.Kind != api.ObsIrq })
	if len(irqs) != 2 {
		t.Fatalf("%d interrupts were taken", len(irqs))
	}
	text := textOf(t, l)
	told := ran(t, head+"irq 500 3\nirq 5000 3\nrun 9000\ntrace 0")
	if got := lines(told[6:]...); got != text || told[5] != fmt.Sprint("trace ", len(l)) || !strings.Contains(got, " 1 irq ") {
		t.Errorf("with interrupts there was told %q, want %q", told, text)
	}
	if ran(t, head+"run 9000\ntrace 0")[3] == told[5] {
		t.Error("interrupts make no difference")
	}
}

// TestTraceAndDigest: of one cell, of all, of none.
func TestTraceAndDigest(t *testing.T) {
	m := machineOf(t, pair)
	l := append(runTo(t, m, 3000), runTo(t, m, 15000)...)
	of := func(cell int) []api.Obs { return slices.Collect(trace.Of(cell, l...)) }
	if len(of(1)) < 10 || len(of(2)) < 3 {
		t.Fatalf("too little is observed: %d, %d", len(of(1)), len(of(2)))
	}
	script := decked(pair) + "boot\ntrace 0\nrun 3000\nrun 15000\n"
	head := ran(t, script)
	for cell, all := range map[string][]api.Obs{"0": l, "1": of(1), "2": of(2), "3": nil, "9": nil, "9223372036854775807": nil} {
		want := append(slices.Clone(head), fmt.Sprint("trace ", len(all)))
		wantRun(t, script+"trace "+cell, append(want, strings.Split(textOf(t, all), "\n")[:len(all)]...)...)
	}
	sum := trace.Digest(1, l...) ^ trace.Digest(2, l...)
	wantRun(t, script+"digest 1\ndigest 2\ndigest 3\ndigest 9\ndigest 0", append(head, digest(1, l), digest(2, l), "digest 00000000", "digest 00000000", fmt.Sprintf("digest %08x", sum))...)
	wantRun(t, decked(pair)+"boot\ndigest 0\ndigest 1", "ok 2", "ok", "digest 00000000", "digest 00000000")
}

// eight is a deck of as many cells, each of which says its number, and halts.
func eight() string {
	s := "pages 32\nown 0 20\ncache 1 1 16\ntlb 1\nmajor 8000\n"
	behind := ""
	for n := range 8 {
		s += fmt.Sprintf("cell c%d 0x4000\nrange 0x4000 0x%x 1 rx\n", n, (20+n)*api.PageSize)
		behind += fmt.Sprintf("window c%d %d 1000\ncode c%d\n.org 0x4000\naddi r1, r0, %d\nhcall 8\nhalt\nend\n", n, 1000*n, n, n)
	}
	return s + behind
}

// TestDigestOfEight: of all cells, from 1 to 8.
func TestDigestOfEight(t *testing.T) {
	l := runTo(t, machineOf(t, eight()), 9000)
	var sum uint32
	want := []string{"ok 8", "ok", "ok 16"}
	script := decked(eight()) + "boot\nrun 9000\n"
	for cell := 1; cell <= 8; cell++ {
		sum ^= trace.Digest(cell, l...)
		script += fmt.Sprintf("digest %d\n", cell)
		want = append(want, digest(cell, l))
	}
	wantRun(t, script+"digest 0", append(want, fmt.Sprintf("digest %08x", sum))...)
}

// TestRegs: PC, the registers but the first, and whether the cell has halted.
func TestRegs(t *testing.T) {
	m := machineOf(t, pair)
	for _, tick := range []uint64{0, 700, 5000} {
		runTo(t, m, tick)
		c, _ := m.Cell(1)
		want := fmt.Sprintf("regs %08x", c.Regs.PC)
		for _, n := range c.Regs.R[1:] {
			want += fmt.Sprintf(" %08x", n)
		}
		told := ran(t, fmt.Sprintf("%sboot\nrun %d\nregs 1", decked(pair), tick))
		if told[3] != want {
			t.Errorf("at %d %q, want %q", tick, told[3], want)
		}
	}
	// All registers, each with another number in it.
	s := "li r15, 0x89abcdef\n"
	want := "regs 00004044"
	for n := 1; n < 15; n++ {
		s += fmt.Sprintf("addi r%d, r0, %d\n", n, n*17)
		want += fmt.Sprintf(" %08x", n*17)
	}
	s = strings.Replace(quiet, "halt", s+"nop\nhalt", 1)
	wantRun(t, decked(s)+"boot\nregs 0\nregs 2\nregs 9223372036854775807\nrun 900\nregs 1", "ok 1", "ok", "error 210", "error 210", "error 210", "ok 1", want+" 89abcdef halted")
}

func TestPeek(t *testing.T) {
	head := decked(quiet+"data a 0x4ffd 0aff00\n") + "boot\n"
	wantRun(t, head+"peek 1 00004ffc 4\npeek 1 00004ffd 1\npeek 1 00004000 4\npeek 1 00004ffe 0\npeek 1 00004ffe 2\npeek 1 00004ffe 3\npeek 1 00003fff 1\npeek 0 00004000 1\npeek 2 00004000 1\npeek 1 ffffffff 2\npeek 2 00004000 0\npeek 9223372036854775807 00004000 0",
		"ok 1", "ok", "= 000aff00", "= 0a", "= 000000bc", "= -", "= ff00", "error 210", "error 210", "error 210", "error 210", "error 210", "error 210", "error 210")
	// It is memory as it is now, and a machine is not changed by it.
	m := machineOf(t, pair)
	runTo(t, m, 3000)
	b, e := m.Peek(2, 0x4200, 4)
	if e != api.OK || fmt.Sprintf("%x", b) == "00000000" {
		t.Fatalf("nothing was received: %x, %d", b, e)
	}
	told := ran(t, decked(pair)+"boot\npeek 2 00004200 4\nrun 3000\npeek 2 00004200 4\nrun 9000\ndigest 0")
	if told[2] != "= 00000000" || told[4] != fmt.Sprintf("= %x", b) || told[6] != ran(t, decked(pair)+"boot\nrun 9000\ndigest 0")[3] {
		t.Errorf("peeks tell %q", told)
	}
}

func TestStat(t *testing.T) {
	s := strings.Replace(pair, "queue a b 4 2 2 flow", "queue a b 4 2 2 flow\nqueue a b 4 1 1 oneway", 1)
	m := machineOf(t, s)
	script, want := decked(s)+"boot\n", []string{"ok 2", "ok"}
	busy := 0
	for _, tick := range []uint64{0, 1000, 2000, 3000, 9000} {
		l := runTo(t, m, tick)
		q, _ := m.Stat(0)
		if q.Accepted > 0 && q.Received > 0 || q.Staged > 0 {
			busy++
		}
		script += fmt.Sprintf("run %d\nstat 0\nstat 1\nstat 2\n", tick)
		want = append(want, fmt.Sprint("ok ", len(l)), fmt.Sprintf("stat %d %d %d %d %d", q.Accepted, q.Received, q.Queued, q.Staged, q.Lost), "stat 0 0 0 0 0", "error 210")
	}
	if busy < 3 {
		t.Errorf("the queue is seldom busy")
	}
	wantRun(t, script+"stat 9223372036854775807", append(want, "error 210")...)
}

// loser is a deck with a one-way queue that is never read: a second message is
// lost.
const loser = `pages 16
own 0 12
cache 2 1 16
tlb 2
major 4000
cell a 0x4000
range 0x4000 0xc000 1 rwx
cell b 0x4000
range 0x4000 0xd000 1 rwx
window a 0 2000
window b 2000 2000
queue a b 4 1 2 oneway
code a
.org 0x4000
 li r2, 0x4100
top: mv r1, r0
 addi r3, r0, 4
 hcall 3
 beq r1, r0, top
 wait
 j top
end
code b
.org 0x4000
 li r2, 0x4100
 hcall 4
 hcall 4
 j 0
end
`

// TestStatOrder: each of the five numbers stands at its place.
func TestStatOrder(t *testing.T) {
	wantRun(t, decked(loser)+"boot\nrun 1900\nstat 0\nrun 2500\nstat 0\nrun 6500\nstat 0", "ok 2", "ok", "ok 3", "stat 2 0 0 2 0", "ok 2", "stat 2 1 0 0 1", "ok 3", "stat 4 1 1 0 2")
}

// TestPart: where two observations of a cell part, counted among its own.
func TestPart(t *testing.T) {
	m := machineOf(t, pair)
	l := runTo(t, m, 9000)
	first := slices.IndexFunc(l, func(o api.Obs) bool { return o.Cell == 2 })
	tick := l[first].Tick + 1
	ahead := slices.DeleteFunc(runTo(t, machineOf(t, pair), tick), func(o api.Obs) bool { return o.Cell != 1 })
	script := fmt.Sprintf("%sboot\nsave a\nrun %d\nkeep x\nrun 9000\nkeep y\npart 1 x\npart 2 x\npart 3 x\npart 0 x\npart 1 y\npart 2 y\npart 9223372036854775807 x\nload a\npart 1 x\npart 2 x\n", decked(pair), tick)
	told := ran(t, script)[7:]
	want := []string{fmt.Sprint("part ", len(ahead)), "part 1", "part -1", "part -1", "part -1", "part -1", "part -1", "ok", "part 0", "part 0"}
	if !slices.Equal(told, want) {
		t.Errorf("parts: %q, want %q", told, want)
	}
	// An interrupt makes the cell that takes it another one.
	irq := ran(t, decked(pair)+"boot\nsave a\nrun 9000\nkeep x\nload a\nirq 500 3\nrun 9000\npart 1 x")
	n, err := strconv.Atoi(strings.TrimPrefix(irq[8], "part "))
	m = machineOf(t, pair)
	m.Script(api.Arrival{Tick: 500, Line: 3})
	if k := runTo(t, m, 9000); err != nil || n != trace.Part(1, k, l) || n < 0 {
		t.Errorf("with an interrupt: %q", irq)
	}
}

// TestKeep: what is kept stays as it was kept; the same name is written over.
func TestKeep(t *testing.T) {
	told := ran(t, decked(pair)+"boot\nkeep z\nsave a\nrun 3000\nkeep x\nrun 9000\nload a\nrun 9000\nkeep y\nload a\nirq 150 3\nrun 3000\npart 1 x\nload a\nrun 3000\npart 1 x\npart 2 x\nrun 9000\npart 1 y\npart 2 y\npart 1 z\nkeep z\npart 1 z\nkeep y\npart 1 y")
	want := []string{"part 0", "ok", "*", "part -1", "part -1", "*", "part -1", "part -1", "part 0", "ok", "part -1", "ok", "part -1"}
	for n, w := range told[len(told)-len(want):] {
		if w != want[n] && want[n] != "*" {
			t.Errorf("keeps: %q, want %q in the end", told, want)
			break
		}
	}
}

// TestKeptApart: what is observed behind a load is written over nothing that was
// kept, or saved, ahead of it.
func TestKeptApart(t *testing.T) {
	head := decked(pair) + "boot\n"
	for tick := 3000; tick < 30000; tick += 1000 {
		head += fmt.Sprintf("run %d\n", tick)
		s := head + fmt.Sprintf("save a\nrun %d\nkeep x\nsave b\nload a\nirq %d 3\nrun %d\nkeep y\npart 1 x\n", tick+5000, tick+1200, tick+5000)
		told := ran(t, s+fmt.Sprintf("load a\nrun %d\npart 1 x\npart 2 x\npart 1 y\nload b\npart 1 x\npart 1 y\ndigest 0\nload a\nrun %d\ndigest 0\n", tick+5000, tick+5000))
		told = told[len(told)-15:]
		n := len(told)
		at := told[2]
		if at == "part -1" || told[5] != "part -1" || told[6] != "part -1" || told[7] != at || told[9] != "part -1" || told[10] != at || told[11] != told[n-1] {
			t.Errorf("saved at %d: %q", tick, told)
		}
	}
}

// TestSaveAndLoad: the machine, and what was observed, as they were.
func TestSaveAndLoad(t *testing.T) {
	again := "now\nregs 1\nregs 2\nstat 0\npeek 1 00004100 4\ntrace 0\nirq 6000 3\nrun 8000\ntrace 1\ndigest 0\nregs 1\nstat 0\n"
	for _, tick := range []int{0, 120, 500, 1950, 2100, 4100, 5000} {
		head := fmt.Sprintf("%sboot\nrun %d\nirq 5500 3\nsave x\n", decked(pair), tick)
		n := len(ran(t, head))
		once := ran(t, head+again)[n:]
		twice := ran(t, head+again+"save y\nload x\n"+again+"load y\nload x\n"+again)[n:]
		want := append(slices.Clone(once), "ok", "ok")
		want = append(append(want, once...), "ok", "ok")
		want = append(want, once...)
		if !slices.Equal(twice, want) {
			t.Errorf("saved at %d: %q, want %q", tick, twice, want)
		}
	}
	// The same name is written over; a machine of another deck is gone back to.
	wantRun(t, decked(quiet)+"boot\nsave a\nrun 1\nsave a\nboot\nload a\nnow\n"+decked(pair)+"boot\nnow\nsave b\nload a\nnow\nregs 2\nload b\nnow", "ok 1", "ok", "ok", "ok 1", "ok", "ok", "ok", "now 1000", "ok 2", "ok", "now 100", "ok", "ok", "now 1000", "error 210", "ok", "now 100")
}
