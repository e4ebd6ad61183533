package mean_test

import (
	"fmt"
	"slices"
	"strings"
	"testing"

	"cloister/api"
	"cloister/rill"
)

// renamed calls all but main and the built-ins otherwise.
func renamed(t api.Term, names map[string]string) api.Term {
	kinds := []api.TermKind{api.TermArray, api.TermFunction, api.TermVar, api.TermSet, api.TermPut, api.TermName, api.TermAt, api.TermCall}
	if slices.Contains(kinds, t.Kind) && t.Text != "main" && t.Text != "halt" && !slices.Contains(builtIns, t.Text) {
		if names[t.Text] == "" {
			names[t.Text] = fmt.Sprint("n", len(names))
		}
		t.Text = names[t.Text]
	}
	kids := t.Kids
	t.Kids = nil
	for _, k := range kids {
		t.Kids = append(t.Kids, renamed(k, names))
	}
	return t
}

// TestNamesDoNotMatter: whatever all is called, the run is one. Names of
// different functions' variables may be one.
func TestNamesDoNotMatter(t *testing.T) {
	t.Parallel()
	random := newRandom(2821)
	for range 2000 {
		x, answers, fuel := anyTree(random, true), anyAnswers(random), random.Intn(500)
		want := run(x, fuel, answers)
		if got := run(renamed(x, map[string]string{}), fuel, answers); !got.same(want) {
			t.Fatalf("%s, want %s", got, want)
		}
		y := api.Term{Kind: api.TermProgram}
		for _, k := range x.Kids {
			names := map[string]string{}
			if k.Kind == api.TermFunction {
				for i, name := range locals(k) {
					names[name] = fmt.Sprint("v", i)
				}
			}
			y.Kids = append(y.Kids, renamedOnly(k, names))
		}
		if got := run(y, fuel, answers); !got.same(want) {
			t.Fatalf("with names that are one: %s, want %s", got, want)
		}
	}
}

// locals are the names of a function's variables.
func locals(t api.Term) []string {
	var names []string
	if t.Kind == api.TermVar || t.Kind == api.TermName {
		names = append(names, t.Text)
	}
	for _, k := range t.Kids {
		names = append(names, locals(k)...)
	}
	slices.Sort(names)
	return slices.Compact(names)
}

// renamedOnly calls these otherwise, and leaves all others.
func renamedOnly(t api.Term, names map[string]string) api.Term {
	kinds := []api.TermKind{api.TermVar, api.TermSet, api.TermName}
	if other := names[t.Text]; other != "" && slices.Contains(kinds, t.Kind) {
		t.Text = other
	}
	kids := t.Kids
	t.Kids = nil
	for _, k := range kids {
		t.Kids = append(t.Kids, renamedOnly(k, names))
	}
	return t
}

// bracketed writes a program with brackets around each value.
func bracketed(t api.Term) string {
	k := func(i int) string { return bracketed(t.Kids[i]) }
	all := func(l []api.Term, between string) string {
		var s []string
		for _, x := range l {
			s = append(s, bracketed(x))
		}
		return strings.Join(s, between)
	}
	switch t.Kind {
	case api.TermProgram:
		return all(t.Kids, "\n")
	case api.TermArray:
		return fmt.Sprintf("array %s[%d];", t.Text, t.N)
	case api.TermFunction:
		var names []string
		for _, x := range t.Kids[:len(t.Kids)-1] {
			names = append(names, x.Text)
		}
		return fmt.Sprintf("func %s(%s) %s", t.Text, strings.Join(names, ","), k(len(t.Kids)-1))
	case api.TermBlock:
		return "{" + all(t.Kids, "\n") + "}"
	case api.TermVar:
		return fmt.Sprintf("var %s = %s;", t.Text, k(0))
	case api.TermSet:
		return fmt.Sprintf("%s = %s;", t.Text, k(0))
	case api.TermPut:
		return fmt.Sprintf("%s[%s] = %s;", t.Text, k(0), k(1))
	case api.TermIf:
		if len(t.Kids) == 3 {
			return fmt.Sprintf("if %s %s else %s", k(0), k(1), k(2))
		}
		return fmt.Sprintf("if %s %s", k(0), k(1))
	case api.TermWhile:
		return fmt.Sprintf("while %s bound %d %s", k(0), t.N, k(1))
	case api.TermForever:
		return "forever " + k(0)
	case api.TermReturn:
		return fmt.Sprintf("return %s;", k(0))
	case api.TermDo:
		return k(0) + ";"
	case api.TermNumber:
		return fmt.Sprintf("(%d)", uint32(t.N))
	case api.TermName:
		return "(" + t.Text + ")"
	case api.TermAt:
		return fmt.Sprintf("(%s[%s])", t.Text, k(0))
	case api.TermCall:
		return fmt.Sprintf("(%s(%s))", t.Text, all(t.Kids, ","))
	case api.TermUnary:
		return fmt.Sprintf("(%s(%s))", t.Text, k(0))
	}
	return fmt.Sprintf("(%s%s%s)", k(0), t.Text, k(1))
}

// TestBracketsDoNotMatter: neither those that layer 27 writes, nor all others.
func TestBracketsDoNotMatter(t *testing.T) {
	t.Parallel()
	random := newRandom(2822)
	for range 2000 {
		x, answers, fuel := anyTree(random, true), anyAnswers(random), random.Intn(500)
		want := run(x, fuel, answers)
		if s := bracketed(x); len(s) <= api.MaxSource {
			y, e, at := rill.Parse(s)
			if e == api.ErrRillDeep {
				continue // there are too many
			}
			if got := run(y, fuel, answers); e != api.OK || !got.same(want) {
				t.Fatalf("%s: %d, %d: %s, want %s", s, e, at, got, want)
			}
		}
		s, _ := rill.Print(x)
		if got := run(parsed(t, s), fuel, answers); !got.same(want) {
			t.Fatalf("%s: %s, want %s", s, got, want)
		}
	}
}

// most is as many steps as a term can take; those of the functions are known.
func most(t api.Term, functions map[string]int) int {
	n := 0
	for _, k := range t.Kids {
		n += most(k, functions)
	}
	switch t.Kind {
	case api.TermBlock:
		return n
	case api.TermWhile:
		return 1 + int(t.N)*(1+n)
	case api.TermCall:
		return 1 + n + functions[t.Text]
	}
	return 1 + n
}

// mostOf is as many steps as a program can take that has no forever.
func mostOf(t api.Term) int {
	functions := map[string]int{}
	// once for each function, whichever calls which
	for range t.Kids {
		for _, k := range t.Kids {
			if k.Kind == api.TermFunction {
				functions[k.Text] = most(k.Kids[len(k.Kids)-1], functions)
			}
		}
	}
	return functions["main"]
}

// TestWhatIsBoundedEnds: a program without a forever, whatever is answered.
func TestWhatIsBoundedEnds(t *testing.T) {
	t.Parallel()
	random := newRandom(2823)
	asked, longest := 0, 0
	for range 3000 {
		x := anyTree(random, false)
		fuel := mostOf(x)
		if fuel > 100000 {
			continue
		}
		asked++
		for range 3 {
			got := run(x, fuel, anyAnswers(random))
			longest = max(longest, got.steps)
			if got.e != api.OK || got.steps > fuel {
				t.Fatalf("%d steps at most: %s", fuel, got)
			}
		}
	}
	if asked < 2000 || longest < 1000 {
		t.Errorf("only %d were asked, the longest took %d steps", asked, longest)
	}
}

// TestAnswersAlone: of two runs that are answered the same up to some call, the
// calls are the same up to that.
func TestAnswersAlone(t *testing.T) {
	t.Parallel()
	random := newRandom(2824)
	parted := 0
	for range 4000 {
		x, answers, fuel := anyTree(random, true), anyAnswers(random), random.Intn(500)
		other := slices.Clone(answers)
		if len(other) == 0 {
			continue
		}
		from := random.Intn(min(len(other), 5))
		for i := from; i < len(other); i++ {
			other[i] = edges[random.Intn(len(edges))]
		}
		a, b := run(x, fuel, answers), run(x, fuel, other)
		n := min(from+1, len(a.calls))
		if len(b.calls) < n || !slices.Equal(a.calls[:n], b.calls[:n]) {
			t.Fatalf("answers from %d on are others: %s and %s", from, a, b)
		}
		if !a.same(b) {
			parted++
		}
	}
	if parted < 300 {
		t.Errorf("only %d part", parted)
	}
}
