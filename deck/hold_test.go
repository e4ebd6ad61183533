package deck_test

import (
	"fmt"
	"math/rand"
	"slices"
	"strings"
	"sync"
	"testing"

	"cloister/api"
	"cloister/config"
	"cloister/deck"
)

// TestPrintedIsReadAgain: what Print writes is read as that configuration and
// these loads.
func TestPrintedIsReadAgain(t *testing.T) {
	random := rand.New(rand.NewSource(2411))
	for range 5000 {
		g, l := anyConfig(random)
		want := modelPrint(g, l)
		wantPrint(t, want, g, l...)
		wantParse(t, want, g, l...)
	}
}

// TestReadIsPrinted: what Parse reads, printed, is read as the same, and printed
// the same.
func TestReadIsPrinted(t *testing.T) {
	random := rand.New(rand.NewSource(2412))
	read, programs := 0, 0
	for range 20000 {
		text := anyDeck(random)
		g, l, e, _ := deck.Parse(text)
		if e != api.OK {
			continue
		}
		read++
		programs += strings.Count(text, "code ")
		s, e := deck.Print(g, l...)
		if e != api.OK || s != modelPrint(g, l) {
			t.Fatalf("%q, printed, is %q, %d", text, s, e)
		}
		wantParse(t, s, g, l...)
		h, k, _, _ := deck.Parse(s)
		wantPrint(t, s, h, k...)
	}
	if read < 5000 || programs < 800 {
		t.Errorf("%d decks are read, with %d programs: the test asks too little", read, programs)
	}
	long := "cell a 0\ncode a\n.zero 4096\nend\n"
	g, l, e, _ := deck.Parse(long)
	if e != api.OK {
		t.Fatalf("Parse(%q) = %d", long, e)
	}
	wantNoPrint(t, "what was read, and is too long", api.ErrDeckLong, g, l...)
}

// dressed puts comments, blanks and empty lines into a deck; it tells which line
// each line is now.
func dressed(random *rand.Rand, s string) (string, []int) {
	var text []string
	var at []int
	for _, line := range strings.Split(s, "\n") {
		for random.Intn(3) == 0 {
			text = append(text, oneOf(random, "", " ", "\t", "# \x00", "  # pages 4", "#", "#end"))
		}
		line = strings.ReplaceAll(line, " ", oneOf(random, " ", "\t", "  \t"))
		text = append(text, oneOf(random, "", " ", "\t\t")+line+oneOf(random, "", " ", "\t", "#", " # end", "\t#\xff\r"))
		at = append(at, len(text))
	}
	return strings.Join(text, "\n"), at
}

// TestBlanks: comments, blanks, lines that say nothing change no answer but the
// error's line.
func TestBlanks(t *testing.T) {
	random := rand.New(rand.NewSource(2413))
	wrongs := 0
	for range 10000 {
		s := anyDeck(random)
		g, l, e, line := deck.Parse(s)
		other, at := dressed(random, s)
		if line > 0 {
			wrongs++
			line = at[line-1]
		}
		h, k, got, where := deck.Parse(other)
		if got != e || where != line || !config.Equal(g, h) || !sameLoads(l, k) {
			t.Fatalf("%q comes to %+v, %+v, %d; %q to %+v, %+v, %d, %d, want line %d", s, g, l, e, other, h, k, got, where, line)
		}
	}
	if wrongs < 1000 {
		t.Errorf("%d decks are wrong: the test asks too little", wrongs)
	}
}

// roomy are the whole things, with spare room behind each list; told is all of
// that, the spare room too.
func roomy() (g api.Config, l []api.Load, told func() string) {
	g, l = wholeThings()
	l = room(l, api.Load{Cell: 77, Data: []byte{7}})
	for i := range l {
		l[i].Data = room(l[i].Data, 77)
	}
	for i := range g.Cells {
		g.Cells[i].Ranges = room(g.Cells[i].Ranges, api.Range{Pages: 77})
		g.Cells[i].Lines = room(g.Cells[i].Lines, 77)
	}
	for i := range g.Samples {
		g.Samples[i].Readers = room(g.Samples[i].Readers, 77)
	}
	g.Cells = room(g.Cells, api.Cell{Name: "spare"})
	g.Windows = room(g.Windows, api.Window{Cell: 77})
	g.Samples = room(g.Samples, api.Sample{Writer: 77})
	g.Queues = room(g.Queues, api.Queue{Writer: 77})
	return g, l, func() string {
		s := fmt.Sprint(g, l, g.Cells[:cap(g.Cells)], g.Windows[:cap(g.Windows)], g.Samples[:cap(g.Samples)], g.Queues[:cap(g.Queues)], l[:cap(l)])
		for _, c := range g.Cells {
			s += fmt.Sprint(c.Ranges[:cap(c.Ranges)], c.Lines[:cap(c.Lines)])
		}
		for _, p := range g.Samples {
			s += fmt.Sprint(p.Readers[:cap(p.Readers)])
		}
		for _, one := range l {
			s += fmt.Sprint(one.Data[:cap(one.Data)])
		}
		return s
	}
}

func room[T any](l []T, v T) []T { return append(slices.Clip(l), v, v, v)[:len(l)] }

// TestNothingIsChanged: of what is handed in, nor what stands behind it; and
// nothing of it is kept.
func TestNothingIsChanged(t *testing.T) {
	g, l, told := roomy()
	want := told()
	wantPrint(t, wholeText, g, l...)
	wantPrint(t, wholeText[:strings.Index(wholeText, "data")], g, l[:0]...)
	wantNoPrint(t, "cells that are none", api.ErrDeckArg, g, l[:4]...)
	wantNoPrint(t, "much", api.ErrDeckLong, g, slices.Repeat(l, 200)...)
	if got := told(); got != want {
		t.Errorf("%s came to be %s", want, got)
	}
	s, _ := deck.Print(g, l...)
	for i := range l {
		scribble(l[i].Data, 0xee)
	}
	scribble(l, api.Load{})
	scribble(g.Cells, api.Cell{})
	scribble(g.Windows, api.Window{})
	if s != wholeText {
		t.Errorf("what was printed is %q now", s)
	}
}

// scribble writes over a list, and what stands behind it.
func scribble[T any](l []T, v T) {
	l = l[:cap(l)]
	for i := range l {
		l[i] = v
	}
}

// lists are ways to write over each list of an answer, but for those that have
// lists within.
func lists(g api.Config, l []api.Load) []func() {
	all := []func(){
		func() { scribble(g.Windows, api.Window{Cell: 99}) },
		func() { scribble(g.Queues, api.Queue{Writer: 99}) },
	}
	for _, c := range g.Cells {
		all = append(all, func() { scribble(c.Ranges, api.Range{Pages: 99}) }, func() { scribble(c.Lines, 99) })
	}
	for _, p := range g.Samples {
		all = append(all, func() { scribble(p.Readers, 99) })
	}
	for _, one := range l {
		all = append(all, func() { scribble(one.Data, 99) })
	}
	return all
}

// parts are what lists writes over, list by list.
func parts(g api.Config, l []api.Load) []string {
	all := []string{fmt.Sprint(g.Windows), fmt.Sprint(g.Queues)}
	for _, c := range g.Cells {
		all = append(all, fmt.Sprint(c.Ranges), fmt.Sprint(c.Lines))
	}
	for _, p := range g.Samples {
		all = append(all, fmt.Sprint(p.Readers))
	}
	for _, one := range l {
		all = append(all, fmt.Sprint(one.Data))
	}
	return all
}

// TestAnswersAreNewMemory: they share none with one another, nor with what came
// out before.
func TestAnswersAreNewMemory(t *testing.T) {
	random := rand.New(rand.NewSource(2414))
	texts := []string{wholeText, aLine + "lines 1\nlines 2 3\ndata a 0 01\ndata a 0 01\nmore 02\ncode a\nnop\nend\ncode a\nnop\nend\ndata a 0\nmore 03 04 05"}
	for range 200 {
		texts = append(texts, anyDeck(random))
	}
	for _, s := range texts {
		g, l, _, _ := deck.Parse(s)
		want := parts(g, l)
		for n := range want {
			h, k, _, _ := deck.Parse(s)
			lists(h, k)[n]()
			for i, other := range parts(h, k) {
				if i != n && other != want[i] {
					t.Fatalf("Parse(%q): the lists %d and %d share memory", s, i, n)
				}
			}
			scribble(h.Cells, api.Cell{})
			scribble(h.Samples, api.Sample{})
			scribble(k, api.Load{})
		}
		if !slices.Equal(parts(g, l), want) {
			t.Fatalf("Parse(%q): what came out shares memory with what came out later", s)
		}
	}
}

// TestSameAgain: what is told hangs on nothing that was asked before.
func TestSameAgain(t *testing.T) {
	random := rand.New(rand.NewSource(2415))
	g, l := wholeThings()
	for range 1000 {
		deck.Parse(spoil(random, anyDeck(random)))
		h, k := anyConfig(random)
		deck.Print(h, k...)
		wantParse(t, wholeText, g, l...)
		wantPrint(t, wholeText, g, l...)
		wantWrong(t, "cell z 0\nwindow a 0 0", api.ErrDeckName, 2)
		wantWrong(t, "more 00", api.ErrDeckSyntax, 1)
	}
}

// TestManyAtOnce: calls know nothing of one another.
func TestManyAtOnce(t *testing.T) {
	var all sync.WaitGroup
	for n := range 8 {
		random := rand.New(rand.NewSource(int64(2420 + n)))
		all.Go(func() {
			for range 200 {
				g, l := anyConfig(random)
				s := modelPrint(g, l)
				wantPrint(t, s, g, l...)
				wantParse(t, s, g, l...)
				wantWrong(t, s+"what", api.ErrDeckSyntax, 1+strings.Count(s, "\n"))
			}
		})
	}
	all.Wait()
}
