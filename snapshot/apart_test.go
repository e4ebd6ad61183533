package snapshot_test

import (
	"bytes"
	"fmt"
	"math/rand"
	"reflect"
	"slices"
	"testing"

	"cloister/api"
	"cloister/snapshot"
)

// stretch is the memory of a list, its spare room too.
type stretch struct {
	from, to uintptr
	what     string
}

// stretches is those of all lists in a value.
func stretches(what string, v reflect.Value) []stretch {
	var l []stretch
	switch v.Kind() {
	case reflect.Slice:
		if v.Cap() > 0 {
			l = append(l, stretch{v.Pointer(), v.Pointer() + uintptr(v.Cap())*v.Type().Elem().Size(), what})
		}
		if v.Type().Elem().Kind() == reflect.Uint8 {
			return l
		}
		for i := range v.Len() {
			l = append(l, stretches(what, v.Index(i))...)
		}
	case reflect.Struct:
		for i := range v.NumField() {
			l = append(l, stretches(what+"."+v.Type().Field(i).Name, v.Field(i))...)
		}
	}
	return l
}

// apart: no two lists of all these values have any memory in common.
func apart(t *testing.T, values ...any) {
	t.Helper()
	var l []stretch
	for _, v := range values {
		l = append(l, stretches(reflect.TypeOf(v).String(), reflect.ValueOf(v))...)
	}
	slices.SortFunc(l, func(a, b stretch) int {
		if a.from < b.from {
			return -1
		}
		return 1
	})
	for i := 1; i < len(l); i++ {
		if l[i].from < l[i-1].to {
			t.Errorf("%s and %s share memory", l[i-1].what, l[i].what)
		}
	}
}

// TestListsAreNew: those that come out share no memory with each other, nor
// with what was handed in.
func TestListsAreNew(t *testing.T) {
	random := rand.New(rand.NewSource(2306))
	for i := range 300 {
		s := small()
		if i > 0 {
			s = anyState(random)
		}
		b, e := snapshot.Encode(s)
		again, f := snapshot.Encode(s)
		if e != api.OK || f != api.OK {
			t.Fatalf("Encode = %d, %d", e, f)
		}
		one, e := snapshot.Decode(b)
		two, f := snapshot.Decode(b)
		if e != api.OK || f != api.OK {
			t.Fatalf("Decode = %d, %d", e, f)
		}
		apart(t, s, b, again, one, two)
		if t.Failed() {
			return
		}
	}
}

// roomy has spare room behind the things of a list.
func roomy[T any](l []T, spare ...T) []T {
	room := append(slices.Clone(l), spare...)
	return room[:len(l)]
}

// roomyState has spare room behind each of its lists, with something in it.
func roomyState() api.State {
	s := small()
	message := api.Message{Tick: 7, Data: []byte{1, 2}}
	for i := range s.Pages {
		s.Pages[i].Bytes = roomy(s.Pages[i].Bytes, 1, 2, 3)
	}
	for i := range s.Samples {
		p := &s.Samples[i]
		p.Last.Data, p.Next.Data = roomy(p.Last.Data, 1, 2), roomy(p.Next.Data, 3)
	}
	for i := range s.Queues {
		q := &s.Queues[i]
		q.Queued, q.Staged = roomy(q.Queued, message), roomy(q.Staged, message, message)
	}
	s.Blob = roomy(s.Blob, 5, 6, 7, 8)
	s.Pages = roomy(s.Pages, api.Page{Number: 3, Bytes: []byte{1}})
	s.Cells = roomy(s.Cells, api.CellState{Halted: true})
	s.Lines = roomy(s.Lines, api.Line{Set: 1, Tag: 1, Dirty: true})
	s.Slots = roomy(s.Slots, api.Slot{Tag: api.Tag{Cell: 1}})
	s.Samples = roomy(s.Samples, api.SampleState{There: true, Last: message})
	s.Queues = roomy(s.Queues, api.QueueState{Queued: []api.Message{message}})
	s.Arrivals = roomy(s.Arrivals, api.Arrival{Tick: 1, Line: 1})
	return s
}

// dump tells all that a value has, the spare room of its lists too.
func dump(v reflect.Value) string {
	switch v.Kind() {
	case reflect.Slice:
		text := fmt.Sprintf("%d:%d[", v.Len(), v.Cap())
		room := v.Slice(0, v.Cap())
		for i := range room.Len() {
			text += dump(room.Index(i)) + " "
		}
		return text + "]"
	case reflect.Struct:
		text := "{"
		for i := range v.NumField() {
			text += dump(v.Field(i)) + " "
		}
		return text + "}"
	}
	return fmt.Sprint(v.Interface())
}

func full[T any](l []T) []T { return l[:cap(l)] }

func TestNothingIsWrittenInto(t *testing.T) {
	for _, line := range []int{5, -1} {
		s := roomyState()
		s.Arrivals[2].Line = line
		before := dump(reflect.ValueOf(s))
		if _, e := snapshot.Encode(s); (e == api.OK) != (line == 5) {
			t.Fatalf("Encode = %d", e)
		}
		if dump(reflect.ValueOf(s)) != before {
			t.Error("Encode changes what it was handed")
		}
	}
	room := roomy(sealed(smallBody()), 1, 2, 3, 4, 5, 6, 7, 8)
	for _, b := range [][]byte{room, room[:40], room[:len(room)-1], full(room)} {
		before := bytes.Clone(full(b))
		snapshot.Decode(b)
		snapshot.Load(b)
		if !bytes.Equal(full(b), before) {
			t.Error("Decode or Load changes what it was handed")
		}
	}
}

// innerBytes is all lists of bytes in a state's messages and pages.
func innerBytes(s api.State) [][]byte {
	var l [][]byte
	for _, p := range s.Pages {
		l = append(l, p.Bytes)
	}
	for _, p := range s.Samples {
		l = append(l, p.Last.Data, p.Next.Data)
	}
	for _, q := range s.Queues {
		for _, m := range append(slices.Clone(q.Queued), q.Staged...) {
			l = append(l, m.Data)
		}
	}
	return l
}

// TestSpareRoomDoesNotCount: what stands behind a list is not written.
func TestSpareRoomDoesNotCount(t *testing.T) {
	wantEncode(t, "lists with spare room", roomyState(), sealed(smallBody()))
	wantDecode(t, "bytes with spare room", roomy(sealed(smallBody()), 1, 2, 3), small())
}

// TestNothingIsKept: what one call was handed, and what it answered, means
// nothing to another one.
func TestNothingIsKept(t *testing.T) {
	random := rand.New(rand.NewSource(2307))
	s := small()
	want := sealed(smallBody())
	for range 200 {
		b, e := snapshot.Encode(s)
		if e != api.OK || !bytes.Equal(b, want) {
			t.Fatalf("Encode = %d, or other bytes", e)
		}
		got, e := snapshot.Decode(b)
		random.Read(full(b))
		if e != api.OK || !same(got, s) {
			t.Fatalf("Decode = %d, or another state", e)
		}
		for _, l := range innerBytes(got) {
			random.Read(full(l))
		}
		random.Read(full(got.Blob))
		clear(full(got.Cells))
		clear(full(got.Queues))
		snapshot.Encode(got)
		snapshot.Decode(b)
	}
}
