package snapshot

import (
	"math"

	"cloister/api"
	"cloister/wire"
)

// reader reads fields. One that has gone wrong stays wrong, and reads noughts
// from there on: it is enough to ask it in the end.
type reader struct {
	*wire.Reader
}

func (r reader) byteOf(n *int) { *n = int(r.Byte()) }

func (r reader) wordOf(n *int) { *n = int(r.Word()) }

func (r reader) longOf(n *int) {
	long := r.Long()
	if long > math.MaxInt64 {
		r.Fail(api.ErrSnapshotForm)
	}
	*n = int(long)
}

func (r reader) word(n *uint32) { *n = r.Word() }

func (r reader) long(n *uint64) { *n = r.Long() }

func (r reader) perm(p *api.Perm) { *p = api.Perm(r.Byte()) }

func (r reader) flag(yes *bool) {
	n := r.Byte()
	if n > 1 {
		r.Fail(api.ErrSnapshotForm)
	}
	*yes = n == 1
}

func (r reader) bytes(b *[]byte) {
	*b = r.Raw(int(r.Word()))
	r.pad()
}

func (r reader) pad() { r.Pad(wordBytes) }

func (r reader) over() bool {
	e, _ := r.Err()
	return e != api.OK
}
