package lab

import (
	"cloister/api"
	"cloister/monitor"
)

// plan is what a deck says.
type plan struct {
	config api.Config
	loads  []api.Load
}

// past is a machine as it was, and what was observed till then.
type past struct {
	bytes []byte
	seen  []api.Obs
}

// bench is what is at hand while a script is done.
type bench struct {
	sheet
	plan    *plan            // nil: there is none
	machine *monitor.Monitor // likewise
	seen    []api.Obs        // since the machine was booted
	saved   map[string]past
	kept    map[string][]api.Obs
	// What is left for all commands together:
	ticks, told, holds, work budget
}

func newBench() *bench {
	return &bench{
		saved: map[string]past{}, kept: map[string][]api.Obs{},
		ticks: api.MaxLab, told: api.MaxTraced, holds: api.MaxSaves, work: api.MaxWork,
	}
}

// do does a command, and tells what came of it.
func (b *bench) do(o order) {
	if !o.needs(b, o) {
		b.line("none")
		return
	}
	if e := o.does(b, o); e != api.OK {
		b.line("error", decimal(uint64(e)))
	}
}

// always is for what needs nothing.
func (b *bench) always(order) bool { return true }

func (b *bench) hasDeck(order) bool { return b.plan != nil }

func (b *bench) hasMachine(order) bool { return b.machine != nil }

func (b *bench) hasSaved(o order) bool {
	_, there := b.saved[o.name]
	return there
}

func (b *bench) hasKept(o order) bool {
	_, there := b.kept[o.name]
	return there && b.machine != nil
}

// budget is how much of something is left.
type budget uint64

// take takes so much of it, or nothing, if there is not as much.
func (b *budget) take(n uint64) bool {
	if n > uint64(*b) {
		return false
	}
	*b -= budget(n)
	return true
}
