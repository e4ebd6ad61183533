package valid_test

import (
	"math/rand"
	"reflect"
	"sync"
	"testing"

	"cloister/api"
	"cloister/config"
	"cloister/valid"
)

// wide lays something behind each list of a configuration.
func wide(g api.Config) api.Config {
	for i := range g.Cells {
		c := &g.Cells[i]
		c.Ranges = append(c.Ranges, api.Range{Pages: 77})[:len(c.Ranges)]
		c.Lines = append(c.Lines, 77)[:len(c.Lines)]
	}
	for i := range g.Samples {
		s := &g.Samples[i]
		s.Readers = append(s.Readers, 77)[:len(s.Readers)]
	}
	g.Cells = append(g.Cells, api.Cell{Name: "room"})[:len(g.Cells)]
	g.Windows = append(g.Windows, api.Window{Cell: 77})[:len(g.Windows)]
	g.Samples = append(g.Samples, api.Sample{Size: 77})[:len(g.Samples)]
	g.Queues = append(g.Queues, api.Queue{Size: 77})[:len(g.Queues)]
	return g
}

// whole is a configuration with all that stands behind its lists.
func whole(g api.Config) api.Config {
	g.Cells = g.Cells[:len(g.Cells)+1]
	g.Windows = g.Windows[:len(g.Windows)+1]
	g.Samples = g.Samples[:len(g.Samples)+1]
	g.Queues = g.Queues[:len(g.Queues)+1]
	return config.Clone(g)
}

// rooms are what stands behind the lists within lists.
func rooms(g api.Config) []int {
	var all []int
	for _, c := range g.Cells {
		all = append(all, c.Ranges[:len(c.Ranges)+1][len(c.Ranges)].Pages, c.Lines[:len(c.Lines)+1][len(c.Lines)])
	}
	for _, s := range g.Samples {
		all = append(all, s.Readers[:len(s.Readers)+1][len(s.Readers)])
	}
	return all
}

func TestNothingIsChanged(t *testing.T) {
	random := rand.New(rand.NewSource(7))
	for i := range 1000 {
		g := anyValid(random)
		if i%2 == 1 {
			changed(random, &g)
		}
		g = wide(g)
		kept, behind := whole(g), rooms(g)
		first, place := valid.Check(g)
		for cell := range len(g.Cells) + 2 {
			valid.MaxStep(g, cell)
			valid.Switch(g, cell)
		}
		valid.Need(g)
		if !reflect.DeepEqual(whole(g), kept) || !reflect.DeepEqual(rooms(g), behind) {
			t.Fatalf("%+v was changed", kept)
		}
		wantCheck(t, "once more", g, first, place)
	}
}

// TestNothingIsKept: what a call answers hangs on what it is given alone.
func TestNothingIsKept(t *testing.T) {
	g := good()
	wantCheck(t, "good", g, api.OK, 0)
	for _, c := range breaks() {
		h := good()
		c.do(&h)
		wantCheck(t, c.what, h, c.want, c.place)
		wantCheck(t, "good", g, api.OK, 0)
	}
	g.Cells[0].Lines[0] = 31
	wantCheck(t, "a line of another cell", g, api.ErrValidLine, 3)
	g.Cells[0].Lines[0] = 0
	wantCheck(t, "its own line again", g, api.OK, 0)
}

// TestManyAtOnce: calls know nothing of one another (the race detector would
// tell).
func TestManyAtOnce(t *testing.T) {
	g := good()
	var all sync.WaitGroup
	for range 8 {
		all.Go(func() {
			for range 50 {
				e, place := valid.Check(g)
				if e != api.OK || place != 0 || valid.MaxStep(g, 2) != 3911 || valid.Switch(g, 2) != 372 || valid.Need(g) != 11 {
					t.Error("another answer")
				}
			}
		})
	}
	all.Wait()
}
