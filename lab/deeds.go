package lab

import (
	"slices"

	"cloister/api"
	"cloister/config"
	"cloister/deck"
	"cloister/monitor"
	"cloister/snapshot"
)

// deck tells by itself what is wrong, as it knows where.
func (b *bench) deck(o order) api.Errno {
	g, l, e, line := deck.Parse(o.text)
	if e != api.OK {
		b.line("error", decimal(uint64(e)), decimal(uint64(line)))
		return api.OK
	}
	b.plan = &plan{g, l}
	b.machine, b.seen = nil, nil
	b.line("ok", decimal(uint64(len(g.Cells))))
	return api.OK
}

func (b *bench) boot(order) api.Errno {
	blob, e := config.Encode(b.plan.config)
	if e != api.OK {
		return e
	}
	m, e := monitor.New(blob, b.plan.loads...)
	if e != api.OK {
		return e
	}
	b.machine, b.seen = m, nil
	return b.ok()
}

func (b *bench) irq(o order) api.Errno {
	if e := b.machine.Script(api.Arrival{Tick: o.numbers[0], Line: o.count(1)}); e != api.OK {
		return e
	}
	return b.ok()
}

func (b *bench) run(o order) api.Errno {
	to, now := o.numbers[0], b.machine.Now()
	if !b.ticks.take(max(to, now) - now) {
		return api.ErrLabLong
	}
	l, e := b.machine.Run(to)
	if e != api.OK {
		return e
	}
	b.seen = append(b.seen, l...)
	b.line("ok", decimal(uint64(len(l))))
	return api.OK
}

func (b *bench) save(o order) api.Errno {
	if !b.holds.take(1) {
		return api.ErrLabLong
	}
	bytes, e := snapshot.Save(b.machine)
	if e != api.OK {
		return e
	}
	b.saved[o.name] = past{bytes, b.seen}
	return b.ok()
}

// load goes on with a list of its own: what was observed is added to, and what
// stands behind the one that was saved may have been kept.
func (b *bench) load(o order) api.Errno {
	if !b.holds.take(1) {
		return api.ErrLabLong
	}
	p := b.saved[o.name]
	m, e := snapshot.Load(p.bytes)
	if e != api.OK {
		return e
	}
	b.machine, b.seen = m, slices.Clone(p.seen)
	return b.ok()
}

func (b *bench) keep(o order) api.Errno {
	if !b.holds.take(1) {
		return api.ErrLabLong
	}
	b.kept[o.name] = b.seen
	return b.ok()
}
