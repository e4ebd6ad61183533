package valid

import "cloister/api"

// rule is one that a configuration keeps or breaks, and what is told if it is
// broken: the error, and where.
type rule struct {
	wrong  api.Errno
	broken func(g api.Config) (where int, broken bool)
}

// rules in the order in which they are asked. Each leans on those ahead of it:
// whoever goes over pages knows that there are not too many.
func rules() [10]rule {
	return [...]rule{
		{api.ErrValidMachine, wrongMachine},
		{api.ErrValidCell, wrongCell},
		{api.ErrValidRange, wrongRange},
		{api.ErrValidMeet, meeting},
		{api.ErrValidLine, wrongLine},
		{api.ErrValidSample, wrongSample},
		{api.ErrValidQueue, wrongQueue},
		{api.ErrValidRoom, noRoom},
		{api.ErrValidWindow, wrongWindow},
		{api.ErrValidBudget, shortWindow},
	}
}

// isCell tells whether a number is a cell's.
func isCell(g api.Config, number int) bool { return number >= 1 && number <= len(g.Cells) }

// firstCell is the number of the first cell that is wrong.
func firstCell(g api.Config, wrong func(number int, c api.Cell) bool) (int, bool) {
	for i, c := range g.Cells {
		if wrong(i+1, c) {
			return i + 1, true
		}
	}
	return 0, false
}

// firstWrong is the place of the first thing that is wrong, or of the first one
// too many.
func firstWrong[T any](l []T, most int, wrong func(x T) bool) (int, bool) {
	for i, x := range l {
		if i == most || wrong(x) {
			return i, true
		}
	}
	return 0, false
}
