package mean

import (
	"slices"

	"cloister/api"
)

// Book is an Outer that answers what it is handed, one behind the other (0, when there is no more), and notes what it was asked.
type Book struct {
	answers []uint32 // those that are left
	told    []api.Told
}

// NewBook is one.
func NewBook(answers ...uint32) *Book { return &Book{answers: slices.Clone(answers)} }

// Call notes a call.
func (b *Book) Call(number uint32, args ...uint32) uint32 {
	t := api.Told{Number: number, Answer: b.answer()}
	copy(t.Args[:], args)
	b.told = append(b.told, t)
	return t.Answer
}

func (b *Book) answer() uint32 {
	if len(b.answers) == 0 {
		return 0
	}
	first := b.answers[0]
	b.answers = b.answers[1:]
	return first
}

// Told tells all calls.
func (b *Book) Told() []api.Told { return slices.Clone(b.told) }
