package config

import (
	"slices"

	"cloister/api"
)

// Equal tells whether two are the same.
func Equal(a, b api.Config) bool {
	return a.Pages == b.Pages && a.OwnBase == b.OwnBase && a.OwnPages == b.OwnPages &&
		a.Shape == b.Shape && a.Slots == b.Slots && a.Major == b.Major &&
		slices.EqualFunc(a.Cells, b.Cells, sameCell) &&
		slices.Equal(a.Windows, b.Windows) &&
		slices.EqualFunc(a.Samples, b.Samples, sameSample) &&
		slices.Equal(a.Queues, b.Queues)
}

func sameCell(a, b api.Cell) bool {
	return a.Name == b.Name && a.Entry == b.Entry &&
		slices.Equal(a.Ranges, b.Ranges) && slices.Equal(a.Lines, b.Lines)
}

func sameSample(a, b api.Sample) bool {
	return a.Writer == b.Writer && a.Size == b.Size && slices.Equal(a.Readers, b.Readers)
}

// Clone is the same in memory of its own.
func Clone(g api.Config) api.Config {
	own(&g.Cells)
	own(&g.Windows)
	own(&g.Samples)
	own(&g.Queues)
	each(g.Cells, func(c *api.Cell) {
		own(&c.Ranges)
		own(&c.Lines)
	})
	each(g.Samples, func(s *api.Sample) { own(&s.Readers) })
	return g
}

// own has a list lie in memory of its own from now on.
func own[T any](list *[]T) {
	*list = append([]T(nil), *list...)
}
