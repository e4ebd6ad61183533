package config_test

import (
	"math"
	"math/rand"
	"reflect"
	"testing"

	"cloister/api"
	"cloister/config"
)

// changes: each field and each list of small, made another one.
func changes() map[string]func(g *api.Config) {
	all := map[string]func(g *api.Config){
		"OwnBase":      func(g *api.Config) { g.OwnBase++ },
		"Major":        func(g *api.Config) { g.Major++ },
		"Name":         func(g *api.Config) { g.Cells[1].Name = "tw" },
		"Entry":        func(g *api.Config) { g.Cells[1].Entry++ },
		"Virtual":      func(g *api.Config) { g.Cells[0].Ranges[1].Virtual++ },
		"Physical":     func(g *api.Config) { g.Cells[0].Ranges[1].Physical++ },
		"Perm":         func(g *api.Config) { g.Cells[0].Ranges[0].Perm++ },
		"Start":        func(g *api.Config) { g.Windows[2].Start++ },
		"Length":       func(g *api.Config) { g.Windows[0].Length++ },
		"Flow":         func(g *api.Config) { g.Queues[1].Flow = true },
		"no cells":     func(g *api.Config) { g.Cells = nil },
		"a cell less":  func(g *api.Config) { g.Cells = g.Cells[:1] },
		"a range less": func(g *api.Config) { g.Cells[0].Ranges = g.Cells[0].Ranges[:1] },
		"a line more":  func(g *api.Config) { g.Cells[1].Lines = []int{0} },
		"a line less":  func(g *api.Config) { g.Cells[0].Lines = g.Cells[0].Lines[:4] },
		"windows":      func(g *api.Config) { g.Windows = g.Windows[1:] },
		"samples":      func(g *api.Config) { g.Samples = append(g.Samples, api.Sample{}) },
		"readers":      func(g *api.Config) { g.Samples[1].Readers = []int{0} },
		"queues":       func(g *api.Config) { g.Queues = g.Queues[:0] },
		"order":        func(g *api.Config) { g.Cells[0], g.Cells[1] = g.Cells[1], g.Cells[0] },
		"lines' order": func(g *api.Config) { l := g.Cells[0].Lines; l[1], l[2] = l[2], l[1] },
	}
	for _, f := range fields() {
		all[f.name] = func(g *api.Config) { *f.of(g)-- }
	}
	return all
}

func wantEqual(t *testing.T, what string, a, b api.Config, want bool) {
	t.Helper()
	if config.Equal(a, b) != want || config.Equal(b, a) != want {
		t.Errorf("%s: Equal is not %t", what, want)
	}
}

func TestEqual(t *testing.T) {
	wantEqual(t, "small", small(), small(), true)
	wantEqual(t, "small and nothing", small(), api.Config{}, false)
	for what, change := range changes() {
		g := small()
		change(&g)
		h := small()
		wantEqual(t, what, g, h, false)
		change(&h)
		wantEqual(t, what, g, h, true)
	}
}

func TestListsOfNothingAreTheSame(t *testing.T) {
	none := api.Config{Cells: []api.Cell{{}}, Samples: []api.Sample{{}}}
	empty := api.Config{
		Cells:   []api.Cell{{Ranges: []api.Range{}, Lines: []int{}}},
		Windows: []api.Window{}, Samples: []api.Sample{{Readers: []int{}}}, Queues: []api.Queue{},
	}
	wantEqual(t, "lists of nothing", none, empty, true)
	wantEqual(t, "no lists", api.Config{}, api.Config{Cells: []api.Cell{}, Samples: []api.Sample{}}, true)
	wantEqual(t, "a cell of nothing", api.Config{}, none, false)
}

// unwritable cannot be written, in each of its fields.
func unwritable() api.Config {
	g := small()
	for i, f := range fields() {
		*f.of(&g) = []int{-1, math.MinInt, math.MaxInt, f.most + 1}[i%4]
	}
	g.Windows = append(g.Windows, make([]api.Window, 300)...)
	g.Cells[0].Name = string(make([]byte, 1000))
	return g
}

// TestOfWhatCannotBeWritten: Equal and Clone ask nothing of that.
func TestOfWhatCannotBeWritten(t *testing.T) {
	g := unwritable()
	wantEncode(t, "what cannot be written", g, nil, api.ErrConfigArg)
	wantEqual(t, "what cannot be written", g, unwritable(), true)
	if c := config.Clone(g); !reflect.DeepEqual(plain(c), plain(g)) {
		t.Errorf("Clone = %+v", c)
	}
	for _, f := range fields() {
		h := unwritable()
		*f.of(&h) ^= 1 << 40 // what a field of a blob would not tell
		wantEqual(t, f.name, g, h, false)
	}
}

func TestClone(t *testing.T) {
	random := rand.New(rand.NewSource(5))
	for _, g := range []api.Config{{}, small(), {Cells: []api.Cell{}, Queues: []api.Queue{}}} {
		wantClone(t, g)
	}
	for range 500 {
		wantClone(t, anyConfig(random, 4))
	}
}

func wantClone(t *testing.T, g api.Config) {
	t.Helper()
	c := config.Clone(g)
	if !reflect.DeepEqual(plain(c), plain(g)) || !config.Equal(c, g) {
		t.Errorf("Clone = %+v, want %+v", c, g)
	}
}

// TestEqualAsReflect: two configurations are the same just if each field is.
func TestEqualAsReflect(t *testing.T) {
	random := rand.New(rand.NewSource(6))
	same := 0
	for range 5000 {
		a := anyConfig(random, 1)
		b := config.Clone(a)
		if random.Intn(2) == 0 {
			b = anyConfig(random, 1)
		}
		want := reflect.DeepEqual(plain(a), plain(b))
		wantEqual(t, "two configurations", a, b, want)
		if want {
			same++
		}
	}
	if same < 1000 || same > 4000 {
		t.Errorf("%d were the same: the test asks too little", same)
	}
}
