package cache

import (
	"slices"

	"cloister/api"
)

// Predict tells what uses of memory come to, by the distance of their reuse alone.
func Predict(s api.Shape, l ...api.Use) ([]api.Touch, api.Errno) {
	if !mayBe(s) {
		return nil, api.ErrCacheShape
	}
	p := past{shape: s, lines: map[place]lastUse{}, uses: make([]pastUse, 1, 1+len(l))}
	told := make([]api.Touch, len(l))
	for i, u := range l {
		told[i] = p.access(u)
	}
	return told, api.OK
}

// past is all uses that there were, numbered from 1 on: so 0 is none, and the
// last use of a line that was never used.
type past struct {
	shape  api.Shape
	lines  map[place]lastUse
	uses   []pastUse
	latest [api.MaxSets]int // of each set its last use
}

// pastUse is one of them: the tag of its line, and the number of the use of
// the same set that was ahead of it.
type pastUse struct {
	tag   uint32
	ahead int
}

// lastUse of a line: its number, and whether the line was written since it came.
type lastUse struct {
	number int
	dirty  bool
}

// access tells what one more use comes to.
func (p *past) access(u api.Use) api.Touch {
	at := placeOf(p.shape, u.Addr)
	last, before := p.lines[at]
	others, count := p.others(at.set, last.number)
	full := count == p.shape.Ways
	hit, back := before && !full, false
	if full {
		goes := others[count-1]
		back = p.lines[place{at.set, goes}].dirty
	}
	p.lines[at] = lastUse{len(p.uses), u.Write || hit && last.dirty}
	p.uses = append(p.uses, pastUse{at.tag, p.latest[at.set]})
	p.latest[at.set] = len(p.uses) - 1
	return touch(hit, back)
}

// others are the tags of a set's lines that were used since a use of it, each
// once, the one used last first. More of them than Ways make no difference;
// and as it stops there, each use is gone back over by few of those behind it:
// a list twice as long takes twice as long.
func (p *past) others(set uint32, since int) (tags [api.MaxWays]uint32, count int) {
	for n := p.latest[set]; n != since && count < p.shape.Ways; n = p.uses[n].ahead {
		if tag := p.uses[n].tag; !slices.Contains(tags[:count], tag) {
			tags[count] = tag
			count++
		}
	}
	return tags, count
}
