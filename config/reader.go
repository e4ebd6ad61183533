package config

import (
	"cloister/api"
	"cloister/wire"
)

// reader reads fields. One that has gone wrong reads noughts from there on,
// so that lists are soon at their end.
type reader struct {
	*wire.Reader
}

func (r reader) byteOf(n *int) { *n = int(r.Byte()) }

func (r reader) halfOf(n *int) { *n = int(r.Half()) }

func (r reader) wordOf(n *int) { *n = int(r.Word()) }

func (r reader) word(n *uint32) { *n = r.Word() }

func (r reader) long(n *uint64) { *n = r.Long() }

func (r reader) perm(p *api.Perm) { *p = api.Perm(r.Byte()) }

func (r reader) flag(yes *bool) {
	n := r.Byte()
	if n > 1 {
		r.Fail(api.ErrConfigForm)
	}
	*yes = n == 1
}

func (r reader) name(s *string) { *s = string(r.Raw(int(r.Byte()))) }

func (r reader) pad() { r.Pad(wordBytes) }

// flaw is where the reader went wrong; ok, if it did not. A flag is known to
// be none when the reader is behind it already.
func (r reader) flaw() (place int, ok bool) {
	e, place := r.Err()
	if e == api.ErrConfigForm {
		place--
	}
	return place, e == api.OK
}
