package rill

import "cloister/api"

// branch is a term as it is read, with the place where it begins.
type branch struct {
	api.Term // whose Kids are these, in the end
	kids     []branch
	at       int
}

func (b branch) whole() api.Term {
	t := b.Term
	for _, k := range b.kids {
		t.Kids = append(t.Kids, k.whole())
	}
	return t
}

// places lays where all terms begin behind these, in the order of the tree.
func (b branch) places(all []int) []int {
	all = append(all, b.at)
	for _, k := range b.kids {
		all = k.places(all)
	}
	return all
}
