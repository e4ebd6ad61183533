package mean_test

import (
	"fmt"
	"slices"
	"sync"
	"testing"

	"cloister/api"
	"cloister/mean"
)

// wantTold asks what a book was asked.
func wantTold(t *testing.T, b *mean.Book, want ...api.Told) {
	t.Helper()
	if got := b.Told(); !slices.Equal(got, want) {
		t.Errorf("Told() = %v, want %v", got, want)
	}
}

func wantAnswer(t *testing.T, got, want uint32) {
	t.Helper()
	if got != want {
		t.Errorf("Call() = %d, want %d", got, want)
	}
}

// TestBookAnswers: one behind the other, then noughts without an end.
func TestBookAnswers(t *testing.T) {
	for n := range uint32(6) {
		var answers []uint32
		for i := range n {
			answers = append(answers, 4294967295-i)
		}
		b := mean.NewBook(answers...)
		for i := range n + 4 {
			want := uint32(0)
			if i < n {
				want = 4294967295 - i
			}
			wantAnswer(t, b.Call(i), want)
		}
	}
	b := mean.NewBook(0, 5, 0, 6)
	for _, want := range []uint32{0, 5, 0, 6, 0, 0} {
		wantAnswer(t, b.Call(1), want)
	}
}

// TestBookTells: any number, and the first three of whatever args.
func TestBookTells(t *testing.T) {
	b := mean.NewBook(7, 8, 9, 10, 11)
	wantTold(t, b)
	b.Call(1)
	wantTold(t, b, api.Told{Number: 1, Answer: 7})
	b.Call(4294967295, 1)
	b.Call(0, 1, 2)
	b.Call(3, 1, 2, 3)
	b.Call(4, 4294967295, 0, 4294967294, 5)
	b.Call(5, 1, 2, 3, 4, 5, 6)
	b.Call(5, []uint32{}...)
	want := []api.Told{
		{Number: 1, Answer: 7},
		{Number: 4294967295, Args: [3]uint32{1}, Answer: 8},
		{Number: 0, Args: [3]uint32{1, 2}, Answer: 9},
		{Number: 3, Args: [3]uint32{1, 2, 3}, Answer: 10},
		{Number: 4, Args: [3]uint32{4294967295, 0, 4294967294}, Answer: 11},
		{Number: 5, Args: [3]uint32{1, 2, 3}},
		{Number: 5},
	}
	wantTold(t, b, want...)
	wantTold(t, b, want...)
}

// TestBookOfNothing: one that was not made by NewBook answers noughts.
func TestBookOfNothing(t *testing.T) {
	var b mean.Book
	wantTold(t, &b)
	wantAnswer(t, b.Call(9, 1), 0)
	wantTold(t, &b, api.Told{Number: 9, Args: [3]uint32{1}})
}

// TestBookKeepsNothing: lists are neither changed nor kept, nor handed out.
func TestBookKeepsNothing(t *testing.T) {
	room := []uint32{1, 2, 3, 99, 98}
	b := mean.NewBook(room[:3]...)
	if !slices.Equal(room, []uint32{1, 2, 3, 99, 98}) {
		t.Errorf("what was handed in is %v", room)
	}
	room[0], room[1], room[2] = 7, 7, 7
	args := []uint32{4, 5, 6, 97}
	wantAnswer(t, b.Call(1, args[:2]...), 1)
	if !slices.Equal(args, []uint32{4, 5, 6, 97}) {
		t.Errorf("what was handed in is %v", args)
	}
	args[0] = 8
	wantAnswer(t, b.Call(2, args[:3]...), 2)
	clear(args)
	want := []api.Told{{Number: 1, Args: [3]uint32{4, 5}, Answer: 1}, {Number: 2, Args: [3]uint32{8, 5, 6}, Answer: 2}}
	for range 5 {
		l := b.Told()
		for i := range l[:cap(l)] {
			l[:cap(l)][i] = api.Told{Number: 77}
		}
		wantTold(t, b, want...)
		first, second := b.Told(), b.Told()
		clear(first[:cap(first)])
		if !slices.Equal(second, want) {
			t.Errorf("two lists are one: %v", second)
		}
		answer := 3 * modelTruth(len(want) == 2)
		wantAnswer(t, b.Call(3), answer)
		want = append(want, api.Told{Number: 3, Answer: answer})
	}
	if !slices.Equal(room, []uint32{7, 7, 7, 99, 98}) {
		t.Errorf("what was handed in is %v", room)
	}
}

// TestBooksApart: they know nothing of one another.
func TestBooksApart(t *testing.T) {
	answers := []uint32{1, 2, 3}
	a, b := mean.NewBook(answers...), mean.NewBook(answers...)
	wantAnswer(t, a.Call(1), 1)
	wantAnswer(t, a.Call(2), 2)
	wantAnswer(t, b.Call(3), 1)
	wantAnswer(t, a.Call(4), 3)
	wantAnswer(t, b.Call(5), 2)
	wantTold(t, a, api.Told{Number: 1, Answer: 1}, api.Told{Number: 2, Answer: 2}, api.Told{Number: 4, Answer: 3})
	wantTold(t, b, api.Told{Number: 3, Answer: 1}, api.Told{Number: 5, Answer: 2})
	var all sync.WaitGroup
	for n := range uint32(8) {
		all.Go(func() {
			b := mean.NewBook(n, n)
			for i := range uint32(1000) {
				b.Call(n, i)
			}
			for i, x := range b.Told() {
				if want := (api.Told{Number: n, Args: [3]uint32{uint32(i)}, Answer: n * modelTruth(i < 2)}); x != want {
					t.Errorf("%v, want %v", x, want)
				}
			}
		})
	}
	all.Wait()
}

// TestBookOfARun: what a run asks, and another one of the same book.
func TestBookOfARun(t *testing.T) {
	x := parsed(t, in("write(1, say(2)); read(who()); halt();"))
	b := mean.NewBook(7, 8, 9, 256, 11, 12)
	want := []api.Told{
		{Number: 8, Args: [3]uint32{2}, Answer: 7},
		{Number: 1, Args: [3]uint32{1, 7}, Answer: 8},
		{Number: 7, Answer: 9},
		{Number: 2, Args: [3]uint32{9}, Answer: 256},
		{Number: 102, Args: [3]uint32{9}, Answer: 11},
		{Number: 11, Answer: 12},
	}
	if n, e := mean.Run(x, plenty, b); n != 10 || e != api.OK {
		t.Errorf("Run: %d, %d", n, e)
	}
	wantTold(t, b, want...)
	mean.Run(x, plenty, b)
	wantTold(t, b, append(want, api.Told{Number: 8, Args: [3]uint32{2}}, api.Told{Number: 1, Args: [3]uint32{1}}, api.Told{Number: 7}, api.Told{Number: 2}, api.Told{Number: 11})...)
}

// TestBookAndListener: of any run a book tells what anybody else was asked.
func TestBookAndListener(t *testing.T) {
	t.Parallel()
	random := newRandom(2804)
	for range 2000 {
		x, answers := anyTree(random, true), anyAnswers(random)
		l, b := &listener{answers: answers}, mean.NewBook(answers...)
		fuel := random.Intn(500)
		n, e := mean.Run(x, fuel, l)
		if m, f := mean.Run(x, fuel, b); m != n || f != e {
			t.Fatalf("%d, %d, want %d, %d", m, f, n, e)
		}
		told := b.Told()
		if len(told) != len(l.calls) {
			t.Fatalf("%v, want %v", told, l.calls)
		}
		for i, x := range told {
			answer := uint32(0)
			if i < len(answers) {
				answer = answers[i]
			}
			all := fmt.Sprintf("%d(%d,%d,%d)", x.Number, x.Args[0], x.Args[1], x.Args[2])
			if !isPadded(l.calls[i], all) || x.Answer != answer {
				t.Fatalf("%s %d, want %s %d", all, x.Answer, l.calls[i], answer)
			}
		}
	}
}

// isPadded: as a call was, with noughts behind its args.
func isPadded(call, all string) bool {
	for _, rest := range []string{"", ",0", ",0,0", "0,0,0"} {
		if call[:len(call)-1]+rest+")" == all {
			return true
		}
	}
	return false
}
