package rill_test

import (
	"fmt"
	"math/rand"
	"slices"
	"strings"
	"sync"
	"testing"

	"cloister/api"
	"cloister/rill"
)

// roomy is a copy whose lists have spare room, with a term of no kind in it.
func roomy(t api.Term) api.Term {
	kids := make([]api.Term, 0, len(t.Kids)+2)
	for _, k := range t.Kids {
		kids = append(kids, roomy(k))
	}
	t.Kids = append(kids, api.Term{Kind: 99, Text: "spare"})[:len(kids)]
	return t
}

// sameRoom asks it of spare room too.
func sameRoom(a, b api.Term) bool {
	a.Kids, b.Kids = a.Kids[:cap(a.Kids)], b.Kids[:cap(b.Kids)]
	return a.Kind == b.Kind && a.Text == b.Text && a.N == b.N && slices.EqualFunc(a.Kids, b.Kids, sameRoom)
}

// spread lays another term over all lists, and their spare room.
func spread(t api.Term, other api.Term) {
	l := t.Kids[:cap(t.Kids)]
	for i := range l {
		spread(l[i], other)
		l[i] = other
	}
}

// TestNothingChanged: neither lists that are handed in, nor their spare room.
func TestNothingChanged(t *testing.T) {
	random := rand.New(rand.NewSource(2711))
	for i := range 500 {
		x := roomy(anyTree(random, i%3*20))
		y := roomy(x)
		first, text := rill.Check(x), ""
		text, _ = rill.Print(x)
		if !sameRoom(x, y) {
			t.Fatalf("%+v was changed", x)
		}
		if again, e := rill.Print(x); rill.Check(x) != first || again != text || e != first {
			t.Fatalf("%+v: %d and %q, then %d and %q", x, first, text, e, again)
		}
	}
}

// TestNothingKept: what comes out is nobody else's, and no two lists are one.
func TestNothingKept(t *testing.T) {
	random := rand.New(rand.NewSource(2712))
	for range 300 {
		tree := anyTree(random, 0)
		s := anyGaps(random, anyTokens(random, tree))
		x, y := parsed(t, s), parsed(t, s)
		if !same(x, tree) || !same(y, tree) {
			t.Fatalf("%q is read as %+v and %+v", s, x, y)
		}
		ownLists(t, x)
		spread(x, api.Term{Kind: 7})
		if !same(y, tree) || !same(parsed(t, s), tree) {
			t.Fatalf("what was read of %q is kept", s)
		}
		text, _ := rill.Print(y)
		spread(y, api.Term{Kind: 7})
		if again := modelText(tree); text != again {
			t.Fatalf("%q was printed, want %q", text, again)
		}
	}
}

// ownLists marks each list at its end, and asks that no other one has the mark.
func ownLists(t *testing.T, x api.Term) {
	t.Helper()
	n := int32(0)
	var mark func(api.Term)
	mark = func(x api.Term) {
		l := x.Kids[:cap(x.Kids)]
		for i := range l {
			n++
			l[i].N = n
			if i < len(x.Kids) {
				mark(x.Kids[i])
			}
		}
	}
	mark(x)
	n = 0
	var ask func(api.Term)
	ask = func(x api.Term) {
		l := x.Kids[:cap(x.Kids)]
		for i := range l {
			n++
			if l[i].N != n {
				t.Fatalf("two lists are one: %d, want %d", l[i].N, n)
			}
			if i < len(x.Kids) {
				ask(x.Kids[i])
			}
		}
	}
	ask(x)
}

// TestAtOnce: calls know nothing of one another.
func TestAtOnce(t *testing.T) {
	random := rand.New(rand.NewSource(2713))
	var sources []string
	for i := range 60 {
		sources = append(sources, anyGaps(random, anyTokens(random, anyTree(random, i%3*20))))
	}
	sources = append(sources, "func main() { "+strings.Repeat("(", 50), "@", strings.Repeat(" ", 20001))
	answer := func(s string) string {
		x, e, at := rill.Parse(s)
		text, f := rill.Print(x)
		return fmt.Sprint(x, e, at, rill.Check(x), text, f)
	}
	var want []string
	for _, s := range sources {
		want = append(want, answer(s))
	}
	var all sync.WaitGroup
	for n := range 8 {
		all.Go(func() {
			for i := range sources {
				k := (i*7 + n) % len(sources)
				if got := answer(sources[k]); got != want[k] {
					t.Errorf("%q: %.200s, want %.200s", sources[k], got, want[k])
				}
			}
		})
	}
	all.Wait()
}
