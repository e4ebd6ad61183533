package snapshot_test

import (
	"bytes"
	"reflect"
	"testing"

	"cloister/api"
	"cloister/snapshot"
	"cloister/wire"
)

const limit = 67108864

// small is a state with something of everything, no two numbers of it alike.
func small() api.State {
	s := api.State{
		Tick: 0x0102030405060708, Waits: true, Blob: []byte{0x09, 0x0a, 0x0b, 0x0c, 0x0d},
		Pages:    []api.Page{{Number: 0x0e0f1011, Bytes: []byte{0x12, 0x13}}, {Number: 0x14}, {Bytes: []byte{0x15, 0x16, 0x17, 0x18}}},
		Cells:    []api.CellState{{Halted: true}, {}},
		Lines:    []api.Line{{Set: 0x191a1b1c, Tag: 0x1d1e1f20, Dirty: true}, {Tag: 0x21}},
		Slots:    []api.Slot{{Tag: api.Tag{Cell: 0x22232425, Page: 0x26272829}, Mapping: api.Mapping{Frame: 0x2a2b2c2d, Perm: 0x2e}}, {}},
		Arrivals: []api.Arrival{{Tick: 0x2f30313233343536, Line: 0x37}, {Line: 0x38}, {Tick: 0x39}},
		Samples: []api.SampleState{
			{There: true, Last: api.Message{Tick: 0x3a3b3c3d3e3f4041, Data: []byte{0x42, 0x43, 0x44, 0x45}}, Next: api.Message{Tick: 0x46}},
			{Waits: true, Next: api.Message{Tick: 0x4748, Data: []byte{0x49, 0x4a, 0x4b}}},
		},
		Queues: []api.QueueState{
			{
				Stat:   api.QueueStat{Accepted: 0x4c4d4e4f50515253, Received: 0x54, Queued: 0x55, Staged: 0x56, Lost: 0x57},
				Queued: []api.Message{{Tick: 0x58, Data: []byte{0x59}}, {Tick: 0x5a}},
				Staged: []api.Message{{Data: []byte{0x5b, 0x5c}}},
			},
			{Staged: []api.Message{{Tick: 0x5d}, {}}},
			{Queued: []api.Message{{Tick: 0x5e}}},
		},
	}
	r := &s.Cells[0].Regs
	for i := range r.R {
		r.R[i] = 0x60606060 + uint32(i)
	}
	r.PC, r.Vector, r.Back, r.On = 0x70717273, 0x74757677, 0x78797a7b, true
	s.Cells[1].Regs.Handling = true
	for i := range s.Gic.Route {
		s.Gic.Route[i] = 0x80 + i
	}
	s.Gic.Pending, s.Gic.Masked = 0xa0a1a2a3, 0xa4a5a6a7
	return s
}

// smallBody is its body, written out by hand.
func smallBody() []byte {
	b := []byte{
		8, 7, 6, 5, 4, 3, 2, 1, 1, 0, 0, 0,
		5, 0, 0, 0, 0x09, 0x0a, 0x0b, 0x0c, 0x0d, 0, 0, 0,

		3, 0, 0, 0,
		0x11, 0x10, 0x0f, 0x0e, 2, 0, 0, 0, 0x12, 0x13, 0, 0,
		0x14, 0, 0, 0, 0, 0, 0, 0,
		0, 0, 0, 0, 4, 0, 0, 0, 0x15, 0x16, 0x17, 0x18,

		2, 0, 0, 0,
	}
	for i := range byte(16) {
		b = append(b, 0x60+i, 0x60, 0x60, 0x60)
	}
	b = append(b, 0x73, 0x72, 0x71, 0x70, 0x77, 0x76, 0x75, 0x74, 0x7b, 0x7a, 0x79, 0x78, 1, 0, 1, 0)
	b = append(b, make([]byte, 19*4)...)
	b = append(b, 0, 1, 0, 0)

	b = append(b,
		2, 0, 0, 0,
		0x1c, 0x1b, 0x1a, 0x19, 0x20, 0x1f, 0x1e, 0x1d, 1, 0, 0, 0,
		0, 0, 0, 0, 0x21, 0, 0, 0, 0, 0, 0, 0,

		2, 0, 0, 0,
		0x25, 0x24, 0x23, 0x22, 0x29, 0x28, 0x27, 0x26, 0x2d, 0x2c, 0x2b, 0x2a, 0x2e, 0, 0, 0,
		0, 0, 0, 0, 0, 0, 0, 0, 0, 0, 0, 0, 0, 0, 0, 0)
	for i := range byte(32) {
		b = append(b, 0x80+i)
	}
	return append(b,
		0xa3, 0xa2, 0xa1, 0xa0, 0xa7, 0xa6, 0xa5, 0xa4,

		2, 0, 0, 0,
		1, 0, 0, 0,
		0x41, 0x40, 0x3f, 0x3e, 0x3d, 0x3c, 0x3b, 0x3a, 4, 0, 0, 0, 0x42, 0x43, 0x44, 0x45,
		0x46, 0, 0, 0, 0, 0, 0, 0, 0, 0, 0, 0,
		0, 1, 0, 0,
		0, 0, 0, 0, 0, 0, 0, 0, 0, 0, 0, 0,
		0x48, 0x47, 0, 0, 0, 0, 0, 0, 3, 0, 0, 0, 0x49, 0x4a, 0x4b, 0,

		3, 0, 0, 0,
		0x53, 0x52, 0x51, 0x50, 0x4f, 0x4e, 0x4d, 0x4c, 0x54, 0, 0, 0, 0, 0, 0, 0,
		0x55, 0, 0, 0, 0, 0, 0, 0, 0x56, 0, 0, 0, 0, 0, 0, 0, 0x57, 0, 0, 0, 0, 0, 0, 0,
		2, 0, 0, 0,
		0x58, 0, 0, 0, 0, 0, 0, 0, 1, 0, 0, 0, 0x59, 0, 0, 0,
		0x5a, 0, 0, 0, 0, 0, 0, 0, 0, 0, 0, 0,
		1, 0, 0, 0,
		0, 0, 0, 0, 0, 0, 0, 0, 2, 0, 0, 0, 0x5b, 0x5c, 0, 0,

		0, 0, 0, 0, 0, 0, 0, 0, 0, 0, 0, 0, 0, 0, 0, 0,
		0, 0, 0, 0, 0, 0, 0, 0, 0, 0, 0, 0, 0, 0, 0, 0, 0, 0, 0, 0, 0, 0, 0, 0,
		0, 0, 0, 0,
		2, 0, 0, 0,
		0x5d, 0, 0, 0, 0, 0, 0, 0, 0, 0, 0, 0,
		0, 0, 0, 0, 0, 0, 0, 0, 0, 0, 0, 0,

		0, 0, 0, 0, 0, 0, 0, 0, 0, 0, 0, 0, 0, 0, 0, 0,
		0, 0, 0, 0, 0, 0, 0, 0, 0, 0, 0, 0, 0, 0, 0, 0, 0, 0, 0, 0, 0, 0, 0, 0,
		1, 0, 0, 0,
		0x5e, 0, 0, 0, 0, 0, 0, 0, 0, 0, 0, 0,
		0, 0, 0, 0,

		3, 0, 0, 0,
		0x36, 0x35, 0x34, 0x33, 0x32, 0x31, 0x30, 0x2f, 0x37, 0, 0, 0,
		0, 0, 0, 0, 0, 0, 0, 0, 0x38, 0, 0, 0,
		0x39, 0, 0, 0, 0, 0, 0, 0, 0, 0, 0, 0,
	)
}

// sealed lays around a body what a snapshot has there.
func sealed(body []byte) []byte {
	n := len(body)
	b := make([]byte, 0, n+16)
	b = append(b, 'C', 'L', 'S', 'N', 1, 0, 0, 0, byte(n), byte(n>>8), byte(n>>16), byte(n>>24))
	b = append(b, body...)
	sum := wire.Sum(b)
	return append(b, byte(sum), byte(sum>>8), byte(sum>>16), byte(sum>>24))
}

// plain has nil for each list that has nothing, and memory of its own.
func plain(s api.State) api.State {
	s.Blob = fresh(s.Blob)
	s.Pages = fresh(s.Pages)
	for i := range s.Pages {
		s.Pages[i].Bytes = fresh(s.Pages[i].Bytes)
	}
	s.Cells, s.Lines, s.Slots, s.Arrivals = fresh(s.Cells), fresh(s.Lines), fresh(s.Slots), fresh(s.Arrivals)
	s.Samples = fresh(s.Samples)
	for i := range s.Samples {
		p := &s.Samples[i]
		p.Last.Data, p.Next.Data = fresh(p.Last.Data), fresh(p.Next.Data)
	}
	s.Queues = fresh(s.Queues)
	for i := range s.Queues {
		q := &s.Queues[i]
		q.Queued, q.Staged = plainMessages(q.Queued), plainMessages(q.Staged)
	}
	return s
}

func plainMessages(l []api.Message) []api.Message {
	l = fresh(l)
	for i := range l {
		l[i].Data = fresh(l[i].Data)
	}
	return l
}

func fresh[T any](l []T) []T { return append([]T(nil), l...) }

func same(a, b api.State) bool { return reflect.DeepEqual(plain(a), plain(b)) }

func wantEncode(t *testing.T, what string, s api.State, want []byte) {
	t.Helper()
	if b, e := snapshot.Encode(s); !bytes.Equal(b, want) || e != api.OK {
		t.Errorf("%s: Encode = %d bytes (%#.40x ..), %d, want %d bytes", what, len(b), b, e, len(want))
	}
}

func wantUnwritten(t *testing.T, what string, s api.State) {
	t.Helper()
	if b, e := snapshot.Encode(s); len(b) != 0 || e != api.ErrSnapshotForm {
		t.Errorf("%s: Encode = %d bytes, %d, want none, ErrSnapshotForm", what, len(b), e)
	}
}

func wantDecode(t *testing.T, what string, b []byte, want api.State) {
	t.Helper()
	if s, e := snapshot.Decode(b); !same(s, want) || e != api.OK {
		t.Errorf("%s: Decode of %d bytes = %d, or another state", what, len(b), e)
	}
}

// wantRefused: by Decode, and by Load, too.
func wantRefused(t *testing.T, what string, b []byte, want api.Errno) {
	t.Helper()
	if s, e := snapshot.Decode(b); !same(s, api.State{}) || e != want {
		t.Errorf("%s: Decode of %d bytes = %d (with a state of nothing: %t), want %d", what, len(b), e, same(s, api.State{}), want)
	}
	if m, e := snapshot.Load(b); m != nil || e != want {
		t.Errorf("%s: Load of %d bytes = %t, %d, want nil, %d", what, len(b), m != nil, e, want)
	}
}

func TestStateOfNothing(t *testing.T) {
	b := sealed(make([]byte, 84))
	if len(b) != 100 || string(b[:12]) != "CLSN\x01\x00\x00\x00\x54\x00\x00\x00" {
		t.Fatalf("% x", b)
	}
	wantEncode(t, "nothing", api.State{}, b)
	wantDecode(t, "nothing", b, api.State{})
	wantEncode(t, "empty lists", api.State{
		Blob: []byte{}, Pages: []api.Page{}, Cells: []api.CellState{}, Lines: []api.Line{}, Slots: []api.Slot{},
		Samples: []api.SampleState{}, Queues: []api.QueueState{}, Arrivals: []api.Arrival{},
	}, b)
}

func TestSmallState(t *testing.T) {
	b := sealed(smallBody())
	wantEncode(t, "small", small(), b)
	wantDecode(t, "small", b, small())
}

func TestRouteThatCannotBeWritten(t *testing.T) {
	var s api.State
	s.Gic.Route[0] = 300
	wantUnwritten(t, "a Route of 300", s)
}

func TestErrorNumbers(t *testing.T) {
	if api.ErrSnapshotForm != 230 || api.ErrSnapshotSum != 231 {
		t.Errorf("ErrSnapshotForm %d, ErrSnapshotSum %d", api.ErrSnapshotForm, api.ErrSnapshotSum)
	}
}
