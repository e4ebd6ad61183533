package lab

import "cloister/api"

// kind of what stands behind a command's word.
type kind int

const (
	aNumber kind = iota
	anAddress
	aName
	ownLines // up to one that ends them
)

// command is what one needs, and does.
type command struct {
	takes []kind
	needs func(*bench, order) bool // is there what it is done with?
	does  func(*bench, order) api.Errno
}

// order is a command as it stands in a script, with what stands behind it.
type order struct {
	command
	numbers []uint64 // addresses, too
	name    string
	text    string
}

func (o order) count(place int) int { return int(o.numbers[place]) }

func (o order) address(place int) uint32 { return uint32(o.numbers[place]) }

// commands are what there is to be done, by their words.
func commands() map[string]command {
	return map[string]command{
		"deck":    {[]kind{ownLines}, (*bench).always, (*bench).deck},
		"boot":    {nil, (*bench).hasDeck, (*bench).boot},
		"irq":     {[]kind{aNumber, aNumber}, (*bench).hasMachine, (*bench).irq},
		"run":     {[]kind{aNumber}, (*bench).hasMachine, (*bench).run},
		"save":    {[]kind{aName}, (*bench).hasMachine, (*bench).save},
		"load":    {[]kind{aName}, (*bench).hasSaved, (*bench).load},
		"keep":    {[]kind{aName}, (*bench).hasMachine, (*bench).keep},
		"now":     {nil, (*bench).hasMachine, (*bench).now},
		"trace":   {[]kind{aNumber}, (*bench).hasMachine, (*bench).trace},
		"digest":  {[]kind{aNumber}, (*bench).hasMachine, (*bench).digest},
		"regs":    {[]kind{aNumber}, (*bench).hasMachine, (*bench).regs},
		"peek":    {[]kind{aNumber, anAddress, aNumber}, (*bench).hasMachine, (*bench).peek},
		"stat":    {[]kind{aNumber}, (*bench).hasMachine, (*bench).stat},
		"part":    {[]kind{aNumber, aName}, (*bench).hasKept, (*bench).part},
		"sources": {[]kind{aNumber}, (*bench).hasDeck, (*bench).sources},
		"print":   {nil, (*bench).hasDeck, (*bench).printPlan},
	}
}
