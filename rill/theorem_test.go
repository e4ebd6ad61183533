package rill_test

import (
	"fmt"
	"math/rand"
	"slices"
	"strings"
	"testing"

	"cloister/api"
	"cloister/rill"
)

// TestWhatIsReadIsPrinted: what is read, printed, and read again, is the same, and
// so is what is printed then.
func TestWhatIsReadIsPrinted(t *testing.T) {
	t.Parallel()
	random := rand.New(rand.NewSource(2721))
	read := 0
	for range 4000 {
		all := anyTokens(random, anyTree(random, random.Intn(2)*40))
		if random.Intn(3) == 0 {
			i, j := random.Intn(len(all)), random.Intn(len(all))
			all[i], all[j] = all[j], all[i]
		}
		s := anyGaps(random, all)
		x, e, _ := rill.Parse(s)
		if e != api.OK {
			continue
		}
		read++
		text, e := rill.Print(x)
		if e == api.ErrRillLong {
			continue
		}
		y, f, at := rill.Parse(text)
		again, g := rill.Print(y)
		if e != api.OK || f != api.OK || g != api.OK || at != 0 || !same(x, y) || again != text {
			t.Fatalf("%q: printed %q (%d), read %d, %d, printed %q (%d)", s, text, e, f, at, again, g)
		}
	}
	if read < 1500 {
		t.Errorf("only %d are read", read)
	}
}

// placesOf: where each of these tokens stands in a source.
func placesOf(t *testing.T, s string, tokens []string) []int {
	t.Helper()
	all := modelTokens(s)
	if len(all) != len(tokens)+1 {
		t.Fatalf("%q has %d tokens, want %d", s, len(all), len(tokens)+1)
	}
	var places []int
	for _, x := range all {
		places = append(places, x.at)
	}
	return places
}

// TestGapsChangePlacesAlone: blanks and comments between tokens.
func TestGapsChangePlacesAlone(t *testing.T) {
	t.Parallel()
	random := rand.New(rand.NewSource(2722))
	count := map[api.Errno]int{}
	for range 3000 {
		all := anyTokens(random, anyTree(random, 1+random.Intn(100)))
		if random.Intn(4) == 0 {
			i, j := random.Intn(len(all)), random.Intn(len(all))
			all[i], all[j] = all[j], all[i]
		}
		plain := strings.Join(all, " ")
		spaced := ""
		for _, x := range all {
			spaced += gaps[random.Intn(len(gaps))] + x
		}
		spaced += gaps[random.Intn(len(gaps))]
		x, e, at := rill.Parse(plain)
		y, f, place := rill.Parse(spaced)
		if e != f || !same(x, y) {
			t.Fatalf("%q: %d; %q: %d", plain, e, spaced, f)
		}
		count[e]++
		if e == api.OK || e == api.ErrRillName && at == 0 || e == api.ErrRillLong {
			continue
		}
		i := slices.Index(placesOf(t, plain, all), at)
		if i < 0 || placesOf(t, spaced, all)[i] != place {
			t.Fatalf("%q: %d at %d; %q: at %d", plain, e, at, spaced, place)
		}
	}
	enough(t, count, 20, api.OK, api.ErrRillSyntax, api.ErrRillName, api.ErrRillTwice, api.ErrRillCount, api.ErrRillRange, api.ErrRillTree)
}

// renamed calls all but main and the built-ins otherwise.
func renamed(t api.Term, names map[string]string) api.Term {
	kinds := []api.TermKind{api.TermArray, api.TermFunction, api.TermVar, api.TermSet, api.TermPut, api.TermName, api.TermAt, api.TermCall}
	if slices.Contains(kinds, t.Kind) && t.Text != "main" && !slices.Contains(modelBuiltIns, t.Text) {
		if names[t.Text] == "" {
			names[t.Text] = fmt.Sprint("n", len(names))
		}
		t.Text = names[t.Text]
	}
	kids := t.Kids
	t.Kids = nil
	for _, k := range kids {
		t.Kids = append(t.Kids, renamed(k, names))
	}
	return t
}

// TestNamesDoNotMatter: whatever all is called, the answer is one.
func TestNamesDoNotMatter(t *testing.T) {
	t.Parallel()
	random := rand.New(rand.NewSource(2723))
	count := map[api.Errno]int{}
	for range 4000 {
		x := anyTree(random, random.Intn(2)*(1+random.Intn(100)))
		y := renamed(x, map[string]string{})
		e := rill.Check(x)
		count[e]++
		if f := rill.Check(y); f != e {
			t.Fatalf("%+v: %d; %+v: %d", x, e, y, f)
		}
		if e != api.OK {
			continue
		}
		text, _ := rill.Print(y)
		z := parsed(t, text)
		if !same(y, z) {
			t.Fatalf("%q is read as %+v", text, z)
		}
	}
	enough(t, count, 30, api.OK, api.ErrRillName, api.ErrRillTwice, api.ErrRillCount, api.ErrRillRange, api.ErrRillTree)
}
