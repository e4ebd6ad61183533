package audit_test

import (
	"math/rand"
	"reflect"
	"slices"
	"sync"
	"testing"

	"cloister/api"
	"cloister/audit"
)

// roomy is a list with the same things, and room behind it that has some, too.
func roomy[T any](l []T) []T {
	return append(slices.Clone(l), l...)[:len(l)]
}

// spacious is a configuration with room behind all its lists.
func spacious(g api.Config) api.Config {
	g.Cells, g.Windows, g.Samples, g.Queues = roomy(g.Cells), roomy(g.Windows), roomy(g.Samples), roomy(g.Queues)
	for i, c := range g.Cells {
		g.Cells[i].Ranges, g.Cells[i].Lines = roomy(c.Ranges), roomy(c.Lines)
	}
	for i, s := range g.Samples {
		g.Samples[i].Readers = roomy(s.Readers)
	}
	return g
}

// whole is a list with what stands behind it.
func whole[T any](l []T) []T { return l[:cap(l)] }

// lists is all lists of a configuration, with what stands behind them, in
// memory of their own.
func lists(g api.Config) []any {
	all := []any{slices.Clone(whole(g.Windows)), slices.Clone(whole(g.Queues)), len(whole(g.Cells)), len(whole(g.Samples))}
	for _, c := range whole(g.Cells) {
		all = append(all, c.Name, c.Entry, slices.Clone(whole(c.Ranges)), slices.Clone(whole(c.Lines)))
	}
	for _, s := range whole(g.Samples) {
		all = append(all, s.Writer, s.Size, slices.Clone(whole(s.Readers)))
	}
	return all
}

// TestNothingIsChanged: of what is handed in, nor what stands behind it.
func TestNothingIsChanged(t *testing.T) {
	random := rand.New(rand.NewSource(2610))
	for range 100 {
		g := spacious(anyConfig(t, random))
		l := roomy(anyTrace(random, g, 40))
		before, were := lists(g), slices.Clone(whole(l))
		audit.Check(g, ever, l...)
		audit.Check(g, 0, l...)
		audit.Count(g, l...)
		audit.Count(g, append(l[:20:20], api.Obs{})...)
		if !reflect.DeepEqual(lists(g), before) || !slices.Equal(whole(l), were) {
			t.Fatalf("%+v or %v was changed", g, l)
		}
	}
}

// TestMapsAreNewMemory: what is done to one changes no other.
func TestMapsAreNewMemory(t *testing.T) {
	l := []api.Obs{seen(0, 1), seen(1, 1), seen(5000, 2)}
	want := counts{1: {api.ObsLoad: 2}, 2: {api.ObsLoad: 1}}
	one, _ := audit.Count(pair(), l...)
	two, _ := audit.Count(pair(), l...)
	one[1][api.ObsLoad] = 9
	one[2][api.ObsSay] = 9
	delete(two, 1)
	if two[2][api.ObsLoad] != 1 || len(two[2]) != 1 {
		t.Errorf("%v was changed by what was done to another", two)
	}
	wantCount(t, pair(), want, l...)
	none, _ := audit.Count(pair())
	if none != nil {
		none[1] = map[api.ObsKind]int{}
	}
	wantCount(t, pair(), counts{})
}

// TestNothingIsKept: a call's answer hangs on its arguments alone, whatever was
// asked ahead.
func TestNothingIsKept(t *testing.T) {
	g := four()
	message := received(10100, 2, 8)
	for range 3 {
		wantCheck(t, g, ever, api.OK, 0, sent(100, 1), message)
		wantCheck(t, g, ever, api.ErrAuditPort, 0, message)
		wantCheck(t, g, ever, api.OK, 0, obs(100, 1, api.ObsHalt, 0, 0))
		wantCheck(t, g, ever, api.OK, 0, seen(100, 1))
		wantCheck(t, pair(), ever, api.ErrAuditWindow, 0, message)
		wantCheck(t, broken()[0], ever, api.ErrAuditConfig, 0, message)
	}
}

// TestManyAtOnce: calls know nothing of one another.
func TestManyAtOnce(t *testing.T) {
	random := rand.New(rand.NewSource(2611))
	g := anyConfig(t, random)
	l := anyTrace(random, g, 60)
	e, place := model(g, ever, l)
	var all sync.WaitGroup
	for range 8 {
		all.Go(func() {
			for range 30 {
				wantCheck(t, g, ever, e, place, l...)
				wantCheck(t, four(), ever, api.OK, 0, sent(100, 1), received(10100, 2, 8))
				wantCount(t, four(), counts{1: {api.ObsLoad: 1}}, seen(0, 1))
			}
		})
	}
	all.Wait()
}
