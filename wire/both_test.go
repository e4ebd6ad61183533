package wire_test

import (
	"bytes"
	"math"
	"math/rand"
	"testing"

	"cloister/api"
	"cloister/wire"
)

// call is one that a writer and a reader have both, with what it writes.
type call struct {
	kind int
	n    uint64
	text []byte
	kids []call // of a Part
}

const kinds = 8

func someCalls(random *rand.Rand, deep int) []call {
	calls := make([]call, random.Intn(8))
	for i := range calls {
		c := call{kind: random.Intn(kinds), n: random.Uint64(), text: make([]byte, random.Intn(20))}
		random.Read(c.text)
		// Within a part places are counted anew, so that padding there differs.
		if c.kind == 6 && deep > 0 {
			c.kind = 0
		}
		if c.kind == 7 && deep < 4 {
			c.kids = someCalls(random, deep+1)
		}
		calls[i] = c
	}
	return calls
}

func padTo(c call) int { return 1 + int(c.n%16) }

func writeAll(w *wire.Writer, calls []call) {
	for _, c := range calls {
		switch c.kind {
		case 0:
			w.Byte(uint8(c.n))
		case 1:
			w.Half(uint16(c.n))
		case 2:
			w.Word(uint32(c.n))
		case 3:
			w.Long(c.n)
		case 4:
			w.Raw(c.text)
		case 5:
			w.Text(string(c.text))
		case 6:
			w.Pad(padTo(c))
		case 7:
			place := w.Open()
			writeAll(w, c.kids)
			w.Shut(place)
		}
	}
}

func readAll(t *testing.T, r *wire.Reader, all int, calls []call) {
	t.Helper()
	for _, c := range calls {
		same := true
		switch c.kind {
		case 0:
			same = r.Byte() == uint8(c.n)
		case 1:
			same = r.Half() == uint16(c.n)
		case 2:
			same = r.Word() == uint32(c.n)
		case 3:
			same = r.Long() == c.n
		case 4:
			same = bytes.Equal(r.Raw(len(c.text)), c.text)
		case 5:
			same = r.Text(len(c.text)) == string(c.text)
		case 6:
			r.Pad(padTo(c))
		case 7:
			part := r.Part()
			readAll(t, part, part.Left(), c.kids)
		}
		if !same {
			t.Fatalf("call %+v reads something else", c)
		}
		if r.At()+r.Left() != all {
			t.Fatalf("At %d and Left %d are not %d together", r.At(), r.Left(), all)
		}
	}
	r.End()
	if e, place := r.Err(); e != api.OK || place != 0 {
		t.Fatalf("at the end: %d at %d", e, place)
	}
}

func TestWhatIsWrittenIsReadAgain(t *testing.T) {
	random := rand.New(rand.NewSource(3))
	for range 2000 {
		calls := someCalls(random, 0)
		w := newWriter(t, 1<<20)
		writeAll(w, calls)
		b, e := w.Done()
		if e != api.OK || w.Len() != len(b) {
			t.Fatalf("Done = %d bytes, %d, Len %d", len(b), e, w.Len())
		}
		readAll(t, wire.NewReader(b), len(b), calls)

		exact := newWriter(t, len(b))
		writeAll(exact, calls)
		wantDone(t, exact, b, api.OK)
		if len(b) > 0 {
			short := newWriter(t, random.Intn(len(b)))
			writeAll(short, calls)
			wantDone(t, short, nil, api.ErrWireFull)
			cut := wire.NewReader(b[:random.Intn(len(b))])
			skipAll(cut, calls)
			if e, _ := cut.Err(); e != api.ErrWireShort {
				t.Fatalf("bytes that were cut: %d, want ErrWireShort", e)
			}
		}
	}
}

// skipAll reads without looking at the numbers.
func skipAll(r *wire.Reader, calls []call) {
	for _, c := range calls {
		switch c.kind {
		case 0:
			r.Byte()
		case 1:
			r.Half()
		case 2:
			r.Word()
		case 3:
			r.Long()
		case 4:
			r.Raw(len(c.text))
		case 5:
			r.Text(len(c.text))
		case 6:
			r.Pad(padTo(c))
		case 7:
			r.Part()
		}
	}
}

func wild(random *rand.Rand) int {
	edges := []int{math.MinInt, math.MinInt32, -1, 0, 1, 2, 4, 4095, 4096, 4097, 65535, 65536, math.MaxInt32, math.MaxInt}
	if random.Intn(2) == 0 {
		return edges[random.Intn(len(edges))]
	}
	return random.Intn(12)
}

// TestReaderOfAnything: whatever is asked, a reader stays within its bytes,
// what it read is what stands there, and what is wrong stays wrong.
func TestReaderOfAnything(t *testing.T) {
	random := rand.New(rand.NewSource(4))
	for range 5000 {
		b := make([]byte, random.Intn(40))
		for i := range b {
			b[i] = byte(random.Intn(4)) * byte(random.Intn(2))
		}
		r := wire.NewReader(b)
		for range 12 {
			e, place := r.Err()
			at := r.At()
			got := askReader(random, r)
			newError, newPlace := r.Err()
			switch {
			case newError == api.OK:
				if r.At()+r.Left() != len(b) || r.At() < at {
					t.Fatalf("At %d (%d ahead of it), Left %d of %d bytes", r.At(), at, r.Left(), len(b))
				}
				if want := b[at:r.At()]; !bytes.HasSuffix(want, got) {
					t.Fatalf("% x was read of % x", got, want)
				}
			case e != api.OK && (newError != e || newPlace != place):
				t.Fatalf("%d at %d came to be %d at %d", e, place, newError, newPlace)
			case r.At() != at || r.Left() != 0 || len(got) != 0:
				t.Fatalf("with an error: At %d (%d ahead of it), Left %d, answer % x", r.At(), at, r.Left(), got)
			}
		}
	}
}

// askReader asks anything, and tells the bytes that the answer is made of.
func askReader(random *rand.Rand, r *wire.Reader) []byte {
	at := r.At()
	number := func(size int, n uint64) []byte {
		if r.At() == at {
			return nil
		}
		b := make([]byte, size)
		for i := range b {
			b[i] = byte(n >> (8 * i))
		}
		return b
	}
	switch random.Intn(10) {
	case 0:
		return number(1, uint64(r.Byte()))
	case 1:
		return number(2, uint64(r.Half()))
	case 2:
		return number(4, uint64(r.Word()))
	case 3:
		return number(8, r.Long())
	case 4:
		return r.Raw(wild(random))
	case 5:
		return []byte(r.Text(wild(random)))
	case 6:
		r.Pad(wild(random))
	case 7:
		part := r.Part()
		return part.Raw(part.Left())
	case 8:
		if random.Intn(8) == 0 {
			r.End()
		}
	case 9:
		if random.Intn(8) == 0 {
			r.Fail(api.Errno(wild(random)))
		}
	}
	return nil
}

// TestWriterOfAnything holds a writer against one that keeps its bytes and
// opened places in plain lists.
func TestWriterOfAnything(t *testing.T) {
	random := rand.New(rand.NewSource(5))
	for range 5000 {
		limit := random.Intn(60)
		w := newWriter(t, limit)
		m := model{limit: limit}
		for range 12 {
			m.ask(t, random, w)
			want, e := m.done()
			wantDone(t, w, want, e)
			if w.Len() != len(m.bytes) {
				t.Fatalf("Len = %d, want %d", w.Len(), len(m.bytes))
			}
			if t.Failed() {
				return
			}
		}
	}
}

type model struct {
	limit  int
	bytes  []byte
	opened []int
	wrong  api.Errno
}

func (m *model) done() ([]byte, api.Errno) {
	switch {
	case m.wrong != api.OK:
		return nil, m.wrong
	case len(m.opened) > 0:
		return nil, api.ErrWireArg
	}
	return m.bytes, api.OK
}

func (m *model) add(e api.Errno, b ...byte) bool {
	switch {
	case m.wrong != api.OK:
	case e != api.OK:
		m.wrong = e
	case len(m.bytes)+len(b) > m.limit:
		m.wrong = api.ErrWireFull
	default:
		m.bytes = append(m.bytes, b...)
		return true
	}
	return false
}

func (m *model) ask(t *testing.T, random *rand.Rand, w *wire.Writer) {
	t.Helper()
	text := make([]byte, random.Intn(9))
	random.Read(text)
	switch random.Intn(5) {
	case 0:
		w.Raw(text)
		m.add(api.OK, text...)
	case 1:
		w.Text(string(text))
		m.add(api.OK, append([]byte{byte(len(text)), 0}, text...)...)
	case 2:
		to := wild(random)
		w.Pad(to)
		if to < 1 || to > 4096 {
			m.add(api.ErrWireArg)
			return
		}
		var zeros []byte
		for (len(m.bytes)+len(zeros))%to != 0 {
			zeros = append(zeros, 0)
		}
		m.add(api.OK, zeros...)
	case 3:
		place := len(m.bytes)
		if !m.add(api.OK, 0, 0, 0, 0) {
			place = 0
		} else {
			m.opened = append(m.opened, place)
		}
		if got := w.Open(); got != place {
			t.Fatalf("Open = %d, want %d", got, place)
		}
	case 4:
		place := wild(random)
		if len(m.opened) > 0 && random.Intn(4) > 0 {
			place = m.opened[random.Intn(len(m.opened))]
		}
		w.Shut(place)
		m.shut(place)
	}
}

func (m *model) shut(place int) {
	for i, p := range m.opened {
		if p == place && m.wrong == api.OK {
			m.bytes[place] = byte(len(m.bytes) - place - 4)
			m.opened = append(m.opened[:i], m.opened[i+1:]...)
			return
		}
	}
	m.add(api.ErrWireArg)
}

func TestErrorNumbers(t *testing.T) {
	got := []api.Errno{api.OK, api.ErrWireArg, api.ErrWireShort, api.ErrWireFull, api.ErrWireZero, api.ErrWireMore, api.ErrWireLong}
	for i, want := range []api.Errno{0, 10, 11, 12, 13, 14, 15} {
		if got[i] != want {
			t.Errorf("error %d has the number %d, want %d", i, got[i], want)
		}
	}
}
