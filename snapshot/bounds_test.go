package snapshot_test

import (
	"bytes"
	"math"
	"testing"

	"cloister/api"
	"cloister/snapshot"
)

type field struct {
	name string
	most int
	of   func(s *api.State) *int
}

// fields is all kinds of ints of small, with the greatest number of each one's
// field.
func fields() []field {
	const mostByte, mostWord, mostLong = 255, 4294967295, 9223372036854775807
	l := []field{
		{"a slot's Cell", mostWord, func(s *api.State) *int { return &s.Slots[0].Tag.Cell }},
		{"the last slot's Cell", mostWord, func(s *api.State) *int { return &s.Slots[1].Tag.Cell }},
		{"Accepted", mostLong, func(s *api.State) *int { return &s.Queues[0].Stat.Accepted }},
		{"Received", mostLong, func(s *api.State) *int { return &s.Queues[0].Stat.Received }},
		{"Queued", mostLong, func(s *api.State) *int { return &s.Queues[0].Stat.Queued }},
		{"Staged", mostLong, func(s *api.State) *int { return &s.Queues[1].Stat.Staged }},
		{"Lost", mostLong, func(s *api.State) *int { return &s.Queues[0].Stat.Lost }},
		{"the last queue's Lost", mostLong, func(s *api.State) *int { return &s.Queues[2].Stat.Lost }},
		{"an arrival's Line", mostByte, func(s *api.State) *int { return &s.Arrivals[0].Line }},
		{"the last arrival's Line", mostByte, func(s *api.State) *int { return &s.Arrivals[2].Line }},
	}
	for i := range api.Lines {
		l = append(l, field{"a Route", mostByte, func(s *api.State) *int { return &s.Gic.Route[i] }})
	}
	return l
}

func TestInts(t *testing.T) {
	for _, f := range fields() {
		for _, n := range []int{0, 1, 127, 128, f.most/2 + 1, f.most - 1, f.most} {
			s := small()
			*f.of(&s) = n
			b, _ := written(s)
			wantEncode(t, f.name, s, b)
			wantDecode(t, f.name, b, s)
		}
		wrong := []int{math.MinInt, math.MinInt + 1, -f.most, -256, -1}
		if f.most < math.MaxInt {
			wrong = append(wrong, f.most+1, f.most+2, 2*f.most+2, math.MaxInt32<<32, math.MaxInt)
		}
		for _, n := range wrong {
			s := small()
			*f.of(&s) = n
			wantUnwritten(t, f.name, s)
		}
	}
}

// TestAllBitsSet: what is no int goes into its field, whatever it is.
func TestAllBitsSet(t *testing.T) {
	const w = math.MaxUint32
	m := api.Message{Tick: math.MaxUint64, Data: []byte{255}}
	s := api.State{
		Tick: math.MaxUint64, Waits: true,
		Pages:    []api.Page{{Number: w, Bytes: []byte{255, 255, 255}}},
		Cells:    []api.CellState{{Halted: true, Regs: api.Regs{PC: w, Vector: w, Back: w, On: true, Handling: true}}},
		Lines:    []api.Line{{Set: w, Tag: w, Dirty: true}},
		Slots:    []api.Slot{{Tag: api.Tag{Page: w}, Mapping: api.Mapping{Frame: w, Perm: 255}}},
		Gic:      api.GicState{Pending: w, Masked: w},
		Samples:  []api.SampleState{{There: true, Waits: true, Last: m, Next: m}},
		Queues:   []api.QueueState{{Queued: []api.Message{m}, Staged: []api.Message{m}}},
		Arrivals: []api.Arrival{{Tick: math.MaxUint64}},
	}
	for i := range s.Cells[0].Regs.R {
		s.Cells[0].Regs.R[i] = w
	}
	b, _ := written(s)
	wantEncode(t, "all bits set", s, b)
	wantDecode(t, "all bits set", b, s)
}

// list is a row of a state, how many bytes each thing of it has, and how many
// it has besides.
type list struct {
	name       string
	each, more int
	make       func(n int) api.State
}

func lists() []list {
	return []list{
		{"Blob", 1, 0, func(n int) api.State { return api.State{Blob: make([]byte, n)} }},
		{"Pages", 8, 0, func(n int) api.State { return api.State{Pages: make([]api.Page, n)} }},
		{"a page's Bytes", 1, 8, func(n int) api.State { return api.State{Pages: []api.Page{{Bytes: make([]byte, n)}}} }},
		{"Cells", 80, 0, func(n int) api.State { return api.State{Cells: make([]api.CellState, n)} }},
		{"Lines", 12, 0, func(n int) api.State { return api.State{Lines: make([]api.Line, n)} }},
		{"Slots", 16, 0, func(n int) api.State { return api.State{Slots: make([]api.Slot, n)} }},
		{"Samples", 28, 0, func(n int) api.State { return api.State{Samples: make([]api.SampleState, n)} }},
		{"Last", 1, 28, func(n int) api.State {
			return api.State{Samples: []api.SampleState{{Last: api.Message{Data: make([]byte, n)}}}}
		}},
		{"Next", 1, 28, func(n int) api.State {
			return api.State{Samples: []api.SampleState{{Next: api.Message{Data: make([]byte, n)}}}}
		}},
		{"Queues", 48, 0, func(n int) api.State { return api.State{Queues: make([]api.QueueState, n)} }},
		{"Queued", 12, 48, func(n int) api.State { return api.State{Queues: []api.QueueState{{Queued: make([]api.Message, n)}}} }},
		{"Staged", 12, 48, func(n int) api.State { return api.State{Queues: []api.QueueState{{Staged: make([]api.Message, n)}}} }},
		{"a message's Data", 1, 60, func(n int) api.State {
			return api.State{Queues: []api.QueueState{{Staged: []api.Message{{Data: make([]byte, n)}}}}}
		}},
		{"Arrivals", 12, 0, func(n int) api.State { return api.State{Arrivals: make([]api.Arrival, n)} }},
	}
}

func TestHowMany(t *testing.T) {
	for _, l := range lists() {
		for _, n := range []int{0, 1, 2, 3, 4, 5, 7, 255, 256, 257, 65536} {
			s := l.make(n)
			b, _ := written(s)
			if want := (100 + l.more + l.each*n + 3) / 4 * 4; len(b) != want {
				t.Fatalf("%d %s: the model has %d bytes, want %d", n, l.name, len(b), want)
			}
			wantEncode(t, l.name, s, b)
			wantDecode(t, l.name, b, s)
		}
	}
}

// TestLimit: a long Blob, and eight things in another row, are as much as may be.
func TestLimit(t *testing.T) {
	t.Parallel()
	for _, l := range lists()[1:] {
		blob := make([]byte, limit-100-l.more-8*l.each)
		s := l.make(8 + 1 + 4/l.each) // rows of bytes have padding
		s.Blob = blob
		wantUnwritten(t, l.name, s)
		if l.name != "Pages" && l.name != "Arrivals" {
			continue
		}
		s = l.make(8)
		s.Blob = blob
		if b, e := snapshot.Encode(s); len(b) != limit || e != api.OK {
			t.Errorf("8 %s: Encode = %d bytes, %d", l.name, len(b), e)
		}
	}
}

// TestLimitByTheByte: the sum counts, too.
func TestLimitByTheByte(t *testing.T) {
	t.Parallel()
	s := api.State{Blob: make([]byte, limit-100)}
	s.Blob[limit-101] = 0x5a
	b, e := snapshot.Encode(s)
	if e != api.OK || len(b) != limit {
		t.Fatalf("Encode = %d bytes, %d", len(b), e)
	}
	if got, e := snapshot.Decode(b); e != api.OK || !bytes.Equal(got.Blob, s.Blob) {
		t.Errorf("Decode of %d bytes = a Blob of %d bytes, %d", len(b), len(got.Blob), e)
	}
	for _, n := range []int{limit - 99, limit - 92, limit - 16, limit - 12, limit, limit + 1, 2 * limit} {
		wantUnwritten(t, "a Blob", api.State{Blob: make([]byte, n)})
	}
}

// TestBothCannotBe: too long, and with an int that does not fit.
func TestBothCannotBe(t *testing.T) {
	s := api.State{Blob: make([]byte, limit), Arrivals: []api.Arrival{{Line: -1}}}
	wantUnwritten(t, "both", s)
}
