package trace_test

import (
	"bytes"
	"math/rand"
	"slices"
	"sync"
	"testing"

	"cloister/api"
	"cloister/trace"
)

// TestWhatIsWrittenIsReadAgain: as bytes, and as a text; and written again.
func TestWhatIsWrittenIsReadAgain(t *testing.T) {
	random := rand.New(rand.NewSource(2210))
	for range 3000 {
		l := anyList(random, random.Intn(20))
		b, e := trace.Encode(l...)
		if e != api.OK {
			t.Fatalf("Encode(%v) = %d", l, e)
		}
		wantDecode(t, b, l...)
		read, _, _ := trace.Decode(b)
		wantEncode(t, b, read...)
		s, e := trace.Text(l...)
		if e != api.OK {
			t.Fatalf("Text(%v) = %d", l, e)
		}
		wantParse(t, s, l...)
		read, _, _ = trace.Parse(s)
		wantText(t, s, read...)
	}
}

// mixed is a list with observations of other cells put in anywhere.
func mixed(random *rand.Rand, cell int, l []api.Obs) []api.Obs {
	l = slices.Clone(l)
	for range random.Intn(20) {
		o := anything(random)
		if o.Cell != cell {
			l = slices.Insert(l, random.Intn(len(l)+1), o)
		}
	}
	return l
}

// TestOthersChangeNothing: of a cell's Digest, Part and Of.
func TestOthersChangeNothing(t *testing.T) {
	random := rand.New(rand.NewSource(2211))
	parts, more := map[int]int{}, 0
	for range 2000 {
		a, b := anythings(random, random.Intn(12)), anythings(random, random.Intn(12))
		if random.Intn(2) == 0 {
			b = slices.Clone(a[:random.Intn(len(a)+1)])
		}
		for _, cell := range cells {
			c, d := mixed(random, cell, a), mixed(random, cell, b)
			more += len(c) - len(a)
			want := trace.Part(cell, a, b)
			parts[min(want, 2)]++
			if got := trace.Part(cell, c, d); got != want {
				t.Fatalf("Part(%d, %v, %v) = %d, and %d without others", cell, c, d, got, want)
			}
			if trace.Part(cell, a, c) != -1 || trace.Digest(cell, a...) != trace.Digest(cell, c...) {
				t.Fatalf("%v and %v are not the same of %d", a, c, cell)
			}
			if !slices.Equal(slices.Collect(trace.Of(cell, a...)), slices.Collect(trace.Of(cell, c...))) {
				t.Fatalf("Of(%d, %v) is not that of %v", cell, c, a)
			}
		}
	}
	if parts[-1] < 500 || parts[0] < 500 || parts[1] < 100 || parts[2] < 100 || more < 10000 {
		t.Errorf("parts %v, and %d were put in: the test asks too little", parts, more)
	}
}

// scribble writes over a list, and what stands behind it.
func scribble[T any](l []T, v T) {
	l = l[:cap(l)]
	for i := range l {
		l[i] = v
	}
}

// TestNothingIsChanged: of what is handed in, nor what stands behind it.
func TestNothingIsChanged(t *testing.T) {
	random := rand.New(rand.NewSource(2212))
	full := anyList(random, 20)
	l := full[:10]
	want := slices.Clone(full)
	trace.Encode(l...)
	trace.Text(l...)
	for cell := range 10 {
		for range trace.Of(cell, l...) {
		}
		trace.Digest(cell, l...)
		trace.Part(cell, l, full[5:8])
		trace.Part(cell, full[5:8], l)
	}
	trace.Encode(append(l[:9:9], api.Obs{})...)
	if !slices.Equal(full, want) {
		t.Errorf("%v came to be %v", want, full)
	}
	b := append(bytesOf(l...), 1, 2, 3, 4, 5)
	keep := bytes.Clone(b)
	trace.Decode(b[:len(b)-5])
	trace.Decode(b)
	trace.Decode(b[:7])
	if !bytes.Equal(b, keep) {
		t.Errorf("%x came to be %x", keep, b)
	}
}

// TestAnswersAreNewMemory: they share none with what was handed in, nor with
// one another.
func TestAnswersAreNewMemory(t *testing.T) {
	random := rand.New(rand.NewSource(2213))
	l := anyList(random, 10)
	keep := slices.Clone(l)
	b, _ := trace.Encode(l...)
	c, _ := trace.Encode(l...)
	want := bytesOf(l...)
	scribble(c, 0xee)
	one, _, _ := trace.Decode(b)
	two, _, _ := trace.Decode(b)
	scribble(one, api.Obs{})
	if !bytes.Equal(b, want) || !slices.Equal(two, keep) {
		t.Error("what was decoded shares memory")
	}
	scribble(b, 0xee)
	if !slices.Equal(two, keep) {
		t.Error("bytes that were decoded are kept")
	}
	s := textOf(l...)
	three, _, _ := trace.Parse(s)
	four, _, _ := trace.Parse(s)
	scribble(three, api.Obs{})
	if !slices.Equal(four, keep) || !slices.Equal(l, keep) {
		t.Error("what was parsed shares memory")
	}
	text, _ := trace.Text(l...)
	scribble(l, api.Obs{})
	if text != s {
		t.Error("observations are kept")
	}
}

// TestManyAtOnce: calls know nothing of one another.
func TestManyAtOnce(t *testing.T) {
	random := rand.New(rand.NewSource(2214))
	var all sync.WaitGroup
	for range 8 {
		l := anyList(random, 200)
		all.Go(func() {
			for range 20 {
				wantEncode(t, bytesOf(l...), l...)
				wantDecode(t, bytesOf(l...), l...)
				wantText(t, textOf(l...), l...)
				wantParse(t, textOf(l...), l...)
				wantNoText(t, textOf(l...)+"x", 201)
			}
		})
	}
	all.Wait()
}
