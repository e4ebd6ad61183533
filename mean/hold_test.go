package mean_test

import (
	"fmt"
	"math/rand"
	"slices"
	"sync"
	"testing"

	"cloister/api"
	"cloister/mean"
)

func newRandom(seed int64) *rand.Rand { return rand.New(rand.NewSource(seed)) }

// roomy is a copy whose lists have spare room, with a term of no kind in it.
func roomy(t api.Term) api.Term {
	kids := make([]api.Term, 0, len(t.Kids)+2)
	for _, k := range t.Kids {
		kids = append(kids, roomy(k))
	}
	t.Kids = append(kids, api.Term{Kind: 99, Text: "spare"})[:len(kids)]
	return t
}

// sameRoom asks it of spare room too.
func sameRoom(a, b api.Term) bool {
	a.Kids, b.Kids = a.Kids[:cap(a.Kids)], b.Kids[:cap(b.Kids)]
	return a.Kind == b.Kind && a.Text == b.Text && a.N == b.N && slices.EqualFunc(a.Kids, b.Kids, sameRoom)
}

// spread lays another term over all lists, and their spare room.
func spread(t api.Term, other api.Term) {
	l := t.Kids[:cap(t.Kids)]
	for i := range l {
		spread(l[i], other)
		l[i] = other
	}
}

// meddler is an Outer that does something with what it is handed.
type meddler struct {
	listener
	meddle func(args []uint32)
}

func (m *meddler) Call(number uint32, args ...uint32) uint32 {
	n := m.listener.Call(number, args...)
	m.meddle(args)
	return n
}

func meddled(x api.Term, fuel int, answers []uint32, meddle func(args []uint32)) outcome {
	m := &meddler{listener{answers: answers}, meddle}
	n, e := mean.Run(x, fuel, m)
	return outcome{n, e, m.calls}
}

// TestNothingChanged: neither the tree that is handed in, nor its spare room.
func TestNothingChanged(t *testing.T) {
	random := newRandom(2811)
	for range 1000 {
		tree, answers, fuel := anyTree(random, true), anyAnswers(random), random.Intn(400)
		x := roomy(tree)
		y := roomy(x)
		want := run(tree, fuel, answers)
		for range 2 {
			if got := run(x, fuel, answers); !got.same(want) || !sameRoom(x, y) {
				t.Fatalf("%s, want %s; the tree is as it was: %v", got, want, sameRoom(x, y))
			}
		}
	}
}

// TestArgsAreWrittenInto: whoever is asked may do with them what it likes.
func TestArgsAreWrittenInto(t *testing.T) {
	random := newRandom(2812)
	asked := 0
	for range 1000 {
		x, answers, fuel := anyTree(random, true), anyAnswers(random), random.Intn(400)
		want := run(x, fuel, answers)
		got := meddled(x, fuel, answers, func(args []uint32) {
			asked += len(args)
			for i := range args[:cap(args)] {
				args[:cap(args)][i] = random.Uint32()
			}
			_ = append(args, 1, 2, 3)
		})
		if !got.same(want) {
			t.Fatalf("%s, want %s", got, want)
		}
	}
	if asked < 1000 {
		t.Errorf("only %d args", asked)
	}
	got := meddled(parsed(t, in("var x = 3; say(x); say(x); read(x); say(x); write(x, x); say(x);")), plenty, []uint32{0, 0, 8, 0, 0, 0, 0}, func(args []uint32) { clear(args) })
	if want := "21 8(3) 8(3) 2(3) 102(3) 8(3) 1(3,3) 8(3)"; got.String() != want {
		t.Errorf("%s, want %s", got, want)
	}
}

// TestArgsAreKept: they are new memory at each call.
func TestArgsAreKept(t *testing.T) {
	random := newRandom(2813)
	for range 300 {
		x, answers := anyTree(random, true), anyAnswers(random)
		var kept, were [][]uint32
		meddled(x, 300, answers, func(args []uint32) {
			kept, were = append(kept, args), append(were, slices.Clone(args))
		})
		for i := range kept {
			if !slices.Equal(kept[i], were[i]) {
				t.Fatalf("%v, and was %v", kept[i], were[i])
			}
		}
		for i := range kept {
			l := kept[i][:cap(kept[i])]
			for j := range l {
				l[j] = uint32(i)
			}
		}
		for i := range kept {
			for _, n := range kept[i][:cap(kept[i])] {
				if n != uint32(i) {
					t.Fatalf("the args of two calls are one: %d and %d", i, n)
				}
			}
		}
	}
}

// TestTreeIsWrittenInto: whoever is asked may have the tree too.
func TestTreeIsWrittenInto(t *testing.T) {
	random := newRandom(2814)
	for range 500 {
		x, answers, fuel := anyTree(random, true), anyAnswers(random), random.Intn(400)
		want := run(x, fuel, answers)
		y := roomy(x)
		other := api.Term{Kind: api.TermKind(random.Intn(22) - 1), Text: "say", N: 7}
		if got := meddled(y, fuel, answers, func([]uint32) { spread(y, other) }); !got.same(want) {
			t.Fatalf("%s, want %s", got, want)
		}
	}
}

// TestRunsWithinRuns: whoever is asked may run others, or the same one, meanwhile.
func TestRunsWithinRuns(t *testing.T) {
	random := newRandom(2815)
	for range 200 {
		x, answers, fuel := anyTree(random, true), anyAnswers(random), random.Intn(200)
		y, others := anyTree(random, true), anyAnswers(random)
		want, other := run(x, fuel, answers), run(y, fuel, others)
		got := meddled(x, fuel, answers, func([]uint32) {
			if got := run(x, fuel, answers); !got.same(want) {
				t.Fatalf("within itself: %s, want %s", got, want)
			}
			got := meddled(y, fuel, others, func([]uint32) { run(x, 20, answers) })
			if !got.same(other) {
				t.Fatalf("within another one: %s, want %s", got, other)
			}
		})
		if !got.same(want) {
			t.Fatalf("%s, want %s", got, want)
		}
	}
}

// TestAtOnce: runs know nothing of one another, of one tree either.
func TestAtOnce(t *testing.T) {
	random := newRandom(2816)
	var trees []api.Term
	var answers [][]uint32
	var want []outcome
	for range 100 {
		trees, answers = append(trees, anyTree(random, true)), append(answers, anyAnswers(random))
		want = append(want, run(trees[len(want)], 300, answers[len(want)]))
	}
	var all sync.WaitGroup
	for n := range 8 {
		all.Go(func() {
			for i := range trees {
				k := (i*7 + n) % len(trees)
				if got := run(trees[k], 300, answers[k]); !got.same(want[k]) {
					t.Errorf("%s, want %s", got, want[k])
				}
			}
		})
	}
	all.Wait()
}

// TestWhatIsOutsideGoesWrong: what it panics with is not the run's, and goes on
// to whoever handed it in; a later run knows nothing of it.
func TestWhatIsOutsideGoesWrong(t *testing.T) {
	x := parsed(t, "func f() { say(1); } func main() { f(); say(2); }")
	for range 3 {
		func() {
			defer func() {
				if given := recover(); fmt.Sprint(given) != "outside" {
					t.Errorf("it goes on with %v", given)
				}
			}()
			meddled(x, plenty, nil, func([]uint32) { panic("outside") })
			t.Errorf("it goes on")
		}()
		wantRun(t, "func f() { say(1); } func main() { f(); say(2); }", "8 8(1) 8(2)")
	}
}
