package trace_test

import (
	"encoding/binary"
	"math/rand"
	"slices"
	"testing"

	"cloister/api"
	"cloister/trace"
)

// saying is bytes in order that say to have so many rows.
func saying(rows uint32, behind ...byte) []byte {
	b := binary.LittleEndian.AppendUint32([]byte("CLTR"), rows)
	return summed(append(b, behind...))
}

func TestMark(t *testing.T) {
	good := bytesOf(api.Obs{Cell: 1, Kind: api.ObsHalt})
	for i := range 4 {
		wantNoBytes(t, good[:i], i)
		for bit := range 8 {
			b := slices.Clone(good)
			b[i] ^= 1 << bit
			wantNoBytes(t, b, i)
			wantNoBytes(t, b[:i+1], i)
			if i < 3 {
				b[3] = 0 // the first one counts
				wantNoBytes(t, b, i)
			}
		}
	}
	wantNoBytes(t, nil, 0)
	wantNoBytes(t, []byte{}, 0)
	wantNoBytes(t, []byte("cltr\x00\x00\x00\x00"), 0)
	wantNoBytes(t, []byte("CLSN\x00\x00\x00\x00"), 2)
	wantNoBytes(t, good[1:], 0)
}

func TestLength(t *testing.T) {
	good := api.Obs{Cell: 1, Kind: api.ObsHalt}
	one := bytesOf(good)
	for n := 4; n < len(one); n++ {
		wantNoBytes(t, one[:n], 4)
	}
	for n := range 2 * row {
		wantNoBytes(t, append(slices.Clone(one), make([]byte, n+1)...), 4)
		wantNoBytes(t, summed(append(slices.Clone(one[:len(one)-4]), make([]byte, n+1)...)), 4)
	}
	wantNoBytes(t, []byte("CLTR\x00\x00\x00\x00\x00\x00\x00"), 4)
	// Less than a row is missing, or too much.
	rows := rowsOf(good, good, good)
	for n := range len(rows) + 1 {
		for said := range uint32(6) {
			if b := saying(said, rows[:n]...); n != int(said)*row {
				wantNoBytes(t, b, 4)
			} else {
				wantDecode(t, b, []api.Obs{good, good, good}[:said]...)
			}
		}
	}
}

// TestNumbersOfRowsThatWrap: 22 times these, and 12, come to as many bytes as
// there are, in 32 bits; or they are below 0 there, or beyond the bound.
func TestNumbersOfRowsThatWrap(t *testing.T) {
	good := slices.Repeat([]api.Obs{{Cell: 1, Kind: api.ObsHalt}}, 40)
	for n := range uint32(len(good)) {
		rows := rowsOf(good[:n]...)
		wantDecode(t, saying(n, rows...), good[:n]...)
		for _, said := range []uint32{n | 1<<31, n | 1<<30, n | 1<<24, -n - 1, 1000001, 1000000, most} {
			wantNoBytes(t, saying(said, rows...), 4)
		}
	}
}

// TestOrderOfErrors: where several things are wrong, the first one counts.
func TestOrderOfErrors(t *testing.T) {
	good, bad := api.Obs{Cell: 1, Kind: api.ObsHalt}, api.Obs{Cell: 9, Kind: api.ObsHalt}
	b := bytesOf(good, bad, good, bad)
	wantNoBytes(t, b, head+row)
	b[len(b)-1] ^= 0x80
	wantNoBytes(t, b, len(b)-4)
	b[4]++
	wantNoBytes(t, b, 4)
	b[2] = 'x'
	wantNoBytes(t, b, 2)
	b[0] = 'x'
	wantNoBytes(t, b, 0)
}

// TestSum: of all bytes ahead of it.
func TestSum(t *testing.T) {
	random := rand.New(rand.NewSource(221))
	l := anyList(random, 5)
	good := bytesOf(l...)
	wantDecode(t, good, l...)
	for i := head; i < len(good); i++ {
		for bit := range 8 {
			b := slices.Clone(good)
			b[i] ^= 1 << bit
			wantNoBytes(t, b, len(b)-4)
		}
	}
	wantNoBytes(t, []byte("CLTR\x00\x00\x00\x00\x00\x00\x00\x00"), 8)
}

// TestBytesOfAny: Encode is as the chapter says, and Decode of it what was
// written.
func TestBytesOfAny(t *testing.T) {
	random := rand.New(rand.NewSource(222))
	for range 2000 {
		l := anyList(random, random.Intn(12))
		b := bytesOf(l...)
		wantEncode(t, b, l...)
		wantDecode(t, b, l...)
	}
}

// TestAnyBytes: what Decode takes Encode writes again, and what it does not is
// wrong where the chapter says.
func TestAnyBytes(t *testing.T) {
	random := rand.New(rand.NewSource(223))
	taken, refused := 0, map[int]int{}
	for range 40000 {
		b := anyBytes(random)
		l, e, at := trace.Decode(b)
		want, wantAt := decoded(b)
		if e == api.OK != (wantAt < 0) || !slices.Equal(l, want) || at != max(wantAt, 0) {
			t.Fatalf("Decode(%x) = %v, %d, %d, want %v at %d", b, l, e, at, want, wantAt)
		}
		if e == api.OK {
			taken++
			wantEncode(t, b, l...)
			continue
		}
		if refused[min(at, head)]++; e != api.ErrTraceForm {
			t.Fatalf("Decode(%x) = %d", b, e)
		}
	}
	for _, at := range []int{0, 1, 2, 3, 4, head} {
		if refused[at] < 100 {
			t.Errorf("%v were refused by their places: the test asks too little", refused)
		}
	}
	if taken < 5000 {
		t.Errorf("%d were taken: the test asks too little", taken)
	}
}

// anyBytes is a trace in which something may be wrong.
func anyBytes(random *rand.Rand) []byte {
	l := anyList(random, random.Intn(5))
	for i := range l {
		switch random.Intn(12) {
		case 0:
			l[i].Kind = api.ObsKind(random.Intn(10))
		case 1:
			l[i].Cell = random.Intn(11)
		case 2:
			l[i].Tick += random.Uint64() >> random.Intn(64)
		case 3:
			l[i].A = anyWord(random)
		}
	}
	b := bytesOf(l...)
	switch random.Intn(8) {
	case 0:
		b[random.Intn(len(b))] ^= 1 << random.Intn(8)
	case 1:
		b = b[:random.Intn(len(b))]
	case 2:
		b = append(b, make([]byte, random.Intn(30))...)
	case 3:
		b = b[:len(b)-4]
		b[random.Intn(len(b))] ^= 1 << random.Intn(8)
		b = summed(b)
	case 4:
		b[random.Intn(9)] = byte(random.Intn(256))
	}
	return b
}

// decoded is the observations, or the place of what is wrong; that is -1, if
// nothing is.
func decoded(b []byte) ([]api.Obs, int) {
	for i, c := range []byte("CLTR") {
		if i >= len(b) || b[i] != c {
			return nil, i
		}
	}
	if len(b) < 12 {
		return nil, 4
	}
	n := int64(binary.LittleEndian.Uint32(b[4:]))
	if n > 1000000 || int64(len(b)) != 12+22*n {
		return nil, 4
	}
	if !slices.Equal(summed(b[:len(b)-4]), b) {
		return nil, len(b) - 4
	}
	var l []api.Obs
	for at := 8; at < len(b)-4; at += 22 {
		o := api.Obs{Tick: binary.LittleEndian.Uint64(b[at:]), Cell: int(b[at+8]), Kind: api.ObsKind(b[at+9])}
		o.PC, o.A, o.B = binary.LittleEndian.Uint32(b[at+10:]), binary.LittleEndian.Uint32(b[at+14:]), binary.LittleEndian.Uint32(b[at+18:])
		if !mayBe(o) {
			return nil, at
		}
		l = append(l, o)
	}
	return l, -1
}
