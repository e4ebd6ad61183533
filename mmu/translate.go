package mmu

import (
	"cloister/api"
	"cloister/entry"
	"cloister/tables"
)

// Translate looks for an address: where it is, its cycles.
func (u *MMU) Translate(cell int, at uint32, a api.Access) (uint32, int, api.Fault) {
	root, known := u.roots[cell]
	if !known {
		return 0, 0, api.FaultUnmapped
	}
	tag := api.Tag{Cell: cell, Page: at / api.PageSize}
	if page, there := u.tlb.Look(tag); there {
		to, fault := u.within(page, at, a)
		return to, 0, fault
	}
	to, steps, fault := tables.Walk(u.memory, root, at, a)
	cycles := u.useSteps(steps)
	if fault == api.FaultNone {
		u.tlb.Put(tag, found(steps))
	}
	return to, cycles, fault
}

// within is where an address lies in a page that the TLB remembers. (Others
// can put into it what no walk has found.)
func (u *MMU) within(page api.Mapping, at uint32, a api.Access) (uint32, api.Fault) {
	switch {
	case !entry.Allows(page.Perm, a):
		return 0, api.FaultDenied
	case page.Frame >= uint32(u.memory.Pages()):
		return 0, api.FaultOutside
	}
	return page.Frame*api.PageSize + at%api.PageSize, api.FaultNone
}

// useSteps is what it costs to read the words of a walk.
func (u *MMU) useSteps(steps []api.WalkStep) int {
	cycles := 0
	for _, s := range steps {
		cycles += u.use(s.At, api.AccessRead)
	}
	return cycles
}

// use is what an access of physical memory costs.
func (u *MMU) use(to uint32, a api.Access) int {
	return u.cache.Access(to, a == api.AccessWrite).Cycles
}

// found is what a walk without a fault has found: its last word tells it.
func found(steps []api.WalkStep) api.Mapping {
	page, _ := entry.Decode(steps[len(steps)-1].Word)
	return api.Mapping{Frame: page.Frame, Perm: page.Perm}
}
