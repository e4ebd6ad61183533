package lab_test

import (
	"fmt"
	"strings"
	"testing"

	"cloister/api"
	"cloister/config"
	"cloister/deck"
	"cloister/lab"
	"cloister/monitor"
)

// lines are a text of these, each with a newline behind it.
func lines(all ...string) string { return strings.Join(all, "\n") + "\n" }

func wantRun(t *testing.T, script string, want ...string) {
	t.Helper()
	told, line, e := lab.Run(script)
	text := strings.Join(append(want[:len(want):len(want)], ""), "\n")
	if told != text || line != 0 || e != api.OK {
		t.Errorf("Run(%.2000q) = %.2000q, %d, %d, want %.2000q", script, told, line, e, text)
	}
}

// wantWrong: with an error nothing is told.
func wantWrong(t *testing.T, script string, want api.Errno, at int) {
	t.Helper()
	if told, line, e := lab.Run(script); told != "" || line != at || e != want {
		t.Errorf("Run(%.500q) = %.500q, %d, %d, want %d, %d", script, told, line, e, at, want)
	}
}

// ran is the lines that a script tells.
func ran(t *testing.T, script string) []string {
	t.Helper()
	told, line, e := lab.Run(script)
	if line != 0 || e != api.OK || told != "" && !strings.HasSuffix(told, "\n") {
		t.Fatalf("Run(%.2000q) = %.2000q, %d, %d", script, told, line, e)
	}
	return strings.Split(strings.TrimSuffix(told, "\n"), "\n")
}

func decked(text string) string { return "deck\n" + text + "%%\n" }

// pair is a deck of two cells: the first one sends, loads, says and reads the
// clock, and takes interrupts; the second one receives.
const pair = `pages 16
own 0 12
cache 2 1 16
tlb 2
major 4000
cell a 0x4000
range 0x4000 0xc000 1 rwx
lines 3
cell b 0x4000
range 0x4000 0xd000 1 rwx
window a 100 1900
window b 2000 2000
queue a b 4 2 2 flow
code a
.org 0x4000
 li r2, 0x4100
 li r4, taken
 vec r4
 ei
top: addi r5, r5, 1
 sw r5, 0(r2)
 mv r1, r0
 addi r3, r0, 4
 hcall 3
 lw r6, 0(r2)
 mv r1, r5
 hcall 8
 wait
 j top
taken: clock r7
 eret
end
code b
.org 0x4000
 li r2, 0x4200
top: mv r1, r0
 hcall 4
 wait
 j top
end
`

// quiet is a deck of one cell that halts at once: each thing behind that is a
// window's end, a thousand million ticks from the one ahead.
const quiet = `pages 8
own 0 3
cache 1 1 16
tlb 1
major 1000000000
cell a 0x4000
range 0x4000 0x4000 1 rx
window a 0 1000
code a
.org 0x4000
halt
end
`

// clockwork is a deck of one cell that reads the clock ten times so many rounds,
// and spins then; and of another one that does nothing but spin.
func clockwork(rounds int) string {
	return fmt.Sprintf(`pages 8
own 0 5
cache 16 4 64
tlb 4
major 40000
cell a 0x4000
range 0x4000 0x6000 1 rx
cell b 0x4000
range 0x4000 0x7000 1 rx
window a 0 39000
window b 39000 1000
code a
.org 0x4000
li r1, %d
top:%s
addi r1, r1, -1
bne r1, r0, top
j 0
end
code b
.org 0x4000
j 0
end
`, rounds, strings.Repeat("\nclock r2", 10))
}

// machineOf is what boot makes of a deck.
func machineOf(t *testing.T, text string) *monitor.Monitor {
	t.Helper()
	g, l, e, line := deck.Parse(text)
	if e != api.OK {
		t.Fatalf("deck.Parse: %d, %d", e, line)
	}
	blob, e := config.Encode(g)
	if e != api.OK {
		t.Fatalf("config.Encode: %d", e)
	}
	m, e := monitor.New(blob, l...)
	if e != api.OK {
		t.Fatalf("monitor.New: %d", e)
	}
	return m
}

// runTo is what such a machine observes.
func runTo(t *testing.T, m *monitor.Monitor, tick uint64) []api.Obs {
	t.Helper()
	l, e := m.Run(tick)
	if e != api.OK {
		t.Fatalf("monitor.Run: %d", e)
	}
	return l
}

// TestExamples: those of the chapter.
func TestExamples(t *testing.T) {
	wantRun(t, "now", "none")
	wantWrong(t, "run", api.ErrLabLine, 1)
	wantWrong(t, "deck", api.ErrLabLine, 1)
	wantWrong(t, "deck\npages 4\n", api.ErrLabLine, 1)
	wantRun(t, decked(pair)+"boot\nrun 0\nnow", "ok 2", "ok", "ok 0", "now 100")
	told := ran(t, decked(pair)+"boot\nsave a\nrun 5000\nkeep x\nload a\nrun 5000\npart 1 x")
	if last := told[len(told)-1]; last != "part -1" || told[3] == "ok 0" || told[3] != told[6] {
		t.Errorf("the third example tells %q", told)
	}
}

// TestNone: where something is needed, and there is none.
func TestNone(t *testing.T) {
	all := []string{"boot", "irq 1 2", "run 5", "save a", "load a", "keep a", "now", "trace 0", "digest 0", "regs 1", "peek 1 00000000 1", "stat 0", "part 1 a", "sources 1", "print"}
	for _, s := range all {
		wantRun(t, s, "none")
	}
	ofDeck := map[string]int{"boot": 1, "sources 1": 1, "print": 1}
	for _, s := range all {
		told := ran(t, decked(pair)+s)
		if _, is := ofDeck[s]; is == (told[1] == "none") {
			t.Errorf("behind a deck %q tells %q", s, told)
		}
	}
	wantRun(t, decked(quiet)+"boot\nload a\npart 1 a\nsave a\npart 1 a\nload b\nkeep b\nload b\npart 1 b\npart 1 a",
		"ok 1", "ok", "none", "none", "ok", "none", "none", "ok", "none", "part -1", "none")
	// What is kept is of no use without a machine; what is saved is.
	wantRun(t, decked(quiet)+"boot\nkeep a\nsave a\n"+decked(quiet)+"part 1 a\nload a\npart 1 a", "ok 1", "ok", "ok", "ok", "ok 1", "none", "ok", "part -1")
}
