package tables

import (
	"cloister/api"
	"cloister/entry"
)

// plan is what must be known ahead of the first word that is written: a root
// into which others have written can tell any page as a table, itself too.
type plan struct {
	tables map[uint32]api.Entry // what the root told, by the first index
	wanted []uint32             // the first indexes without a table, as their first pages come
}

// Map maps ranges, all or none.
func (s *Space) Map(l ...api.Range) api.Errno {
	if !allMayBe(l) {
		return api.ErrTablesArg
	}
	p, free := s.plan(l)
	if !free {
		return api.ErrTablesThere
	}
	if e := s.room(len(p.wanted)); e != api.OK {
		return e
	}
	s.takeTables(p)
	for x, page := range pagesOf(l) {
		store(s.arena.Memory(), addressOf(p.tables[x.first].Frame), x.second, page)
	}
	return api.OK
}

// plan asks the root about all pages; there is none if a page stands twice, or
// something stands where its word would go.
func (s *Space) plan(l []api.Range) (plan, bool) {
	p := plan{tables: map[uint32]api.Entry{}}
	seen := map[place]struct{}{}
	for x := range pagesOf(l) {
		if _, twice := seen[x]; twice || !s.ask(&p, x.first) || !s.free(p.tables[x.first], x.second) {
			return plan{}, false
		}
		seen[x] = struct{}{}
	}
	return p, true
}

// ask looks, once, at what the root tells of a first index: either nothing,
// and a table is wanted, or a table in the memory. (The root itself always
// lies there, since the arena gave it.)
func (s *Space) ask(p *plan, first uint32) bool {
	if _, asked := p.tables[first]; asked {
		return true
	}
	word, _ := wordAt(s.arena.Memory(), s.root, first)
	table, e := entry.Decode(word.Word)
	switch {
	case e != api.OK || table.Kind == api.EntryPage:
		return false
	case table.Kind == api.EntryNone:
		p.wanted = append(p.wanted, first)
	case !hasFrame(s.arena.Memory(), table.Frame):
		return false
	}
	p.tables[first] = table
	return true
}

// free tells whether a table has nothing at an index; one that is still wanted
// has nothing anywhere.
func (s *Space) free(table api.Entry, second uint32) bool {
	if table.Kind == api.EntryNone {
		return true
	}
	word, _ := wordAt(s.arena.Memory(), addressOf(table.Frame), second)
	page, e := entry.Decode(word.Word)
	return e == api.OK && page.Kind == api.EntryNone
}

// room tells whether the arena would give so many pages.
func (s *Space) room(wanted int) api.Errno {
	switch {
	case wanted == 0:
		return api.OK
	case s.arena.Sealed():
		return api.ErrTablesSealed
	case s.arena.Left() < wanted:
		return api.ErrTablesFull
	}
	return api.OK
}

// takeTables takes the tables that are wanted; room has told that the arena
// gives them.
func (s *Space) takeTables(p plan) {
	for _, first := range p.wanted {
		at, _ := s.arena.Take()
		table := api.Entry{Kind: api.EntryTable, Frame: at / api.PageSize}
		store(s.arena.Memory(), s.root, first, table)
		p.tables[first] = table
	}
}
