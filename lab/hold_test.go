package lab_test

import (
	"fmt"
	"math/rand"
	"slices"
	"strings"
	"sync"
	"testing"

	"cloister/api"
	"cloister/lab"
)

// TestWhatStandsBehind: it changes nothing of what is told up to it.
func TestWhatStandsBehind(t *testing.T) {
	random := rand.New(rand.NewSource(2511))
	cuts := 0
	for range 30 {
		s := anyScript(random)
		all, line, e := lab.Run(s)
		if e != api.OK {
			t.Fatalf("Run(%q) = %d, %d", s, line, e)
		}
		ahead := ""
		for n, l := range strings.SplitAfter(s, "\n") {
			ahead += l
			if n%3 > 0 {
				continue
			}
			told, line, e := lab.Run(ahead)
			if e == api.ErrLabLine && line > 0 && strings.TrimSpace(strings.Split(ahead, "\n")[line-1]) == "deck" {
				continue // it was cut within a deck
			}
			cuts++
			if e != api.OK || !strings.HasPrefix(all, told) {
				t.Fatalf("Run(%q) = %q, %d, %d; with more behind it %q", ahead, told, line, e, all)
			}
		}
	}
	if cuts < 200 {
		t.Errorf("%d cuts: the test asks too little", cuts)
	}
}

// anyDeed is a line that asks for no more than there is, however often.
func anyDeed(random *rand.Rand) string {
	return oneOf(random, fmt.Sprint("run ", random.Intn(9000)), fmt.Sprint("run ", random.Intn(9000)), "now", "trace 1", "trace 0", "digest 0", "digest 2", "regs 1", "regs 2", "peek 1 00004100 8", "peek 2 00004200 4", "stat 0", "part 1 k", "part 2 k", fmt.Sprint("irq ", random.Intn(9000), " 3"))
}

// TestLoadedIsSaved: what is saved, and later loaded, answers the same.
func TestLoadedIsSaved(t *testing.T) {
	random := rand.New(rand.NewSource(2512))
	for range 250 {
		text := oneOf(random, pair, pair, loser, eight())
		head := decked(text) + "boot\n" + fmt.Sprintf("run %d\nkeep k\n", random.Intn(9000))
		for range random.Intn(4) {
			head += anyDeed(random) + "\n"
		}
		deeds := ""
		for range 1 + random.Intn(12) {
			deeds += anyDeed(random) + "\n"
		}
		told := ran(t, head+"save x\n"+deeds+oneOf(random, "", "", decked(quiet), "boot\n")+"load x\n"+deeds)
		n := len(ran(t, head)) + 1
		once := ran(t, head+"save x\n"+deeds)[n:]
		if twice := told[len(told)-len(once):]; told[len(told)-len(once)-1] != "ok" || !slices.Equal(once, twice) {
			t.Fatalf("behind %q, saved, %q tells %q, and loaded %q", head, deeds, once, twice)
		}
	}
}

// TestSameAgain: two scripts know nothing of one another.
func TestSameAgain(t *testing.T) {
	random := rand.New(rand.NewSource(2513))
	const s = "run 1\nload a\npart 1 a\nsources 0"
	for range 40 {
		lab.Run(anyScript(random))
		lab.Run(spoil(random, anyScript(random)))
		wantRun(t, s, "none", "none", "none", "none")
		wantRun(t, decked(quiet)+"boot\n"+s, "ok 1", "ok", "ok 1", "none", "none", "sources")
	}
}

// TestManyAtOnce: nor do they, when they are done at once.
func TestManyAtOnce(t *testing.T) {
	var all sync.WaitGroup
	for n := range 8 {
		random := rand.New(rand.NewSource(int64(2520 + n)))
		all.Go(func() {
			for range 30 {
				s := anyScript(random)
				want, line, e := modelRun(s)
				if told, at, got := lab.Run(s); told != want || at != line || got != e {
					t.Errorf("Run(%q) = %q, %d, %d, want %q, %d, %d", s, told, at, got, want, line, e)
				}
			}
		})
	}
	all.Wait()
}
