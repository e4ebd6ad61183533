package snapshot_test

import (
	"bytes"
	"encoding/binary"
	"math"
	"math/rand"
	"runtime"
	"testing"

	"cloister/api"
	"cloister/snapshot"
	"cloister/wire"
)

// with is bytes, one of them another one.
func with(b []byte, at int, n byte) []byte {
	b = bytes.Clone(b)
	b[at] = n
	return b
}

func withWord(b []byte, at int, n uint32) []byte {
	b = bytes.Clone(b)
	binary.LittleEndian.PutUint32(b[at:], n)
	return b
}

func TestBeginning(t *testing.T) {
	b := sealed(smallBody())
	for at := range 8 {
		for bit := range 8 {
			other := with(b, at, b[at]^1<<bit)
			wantRefused(t, "another beginning, and a wrong sum", other, api.ErrSnapshotForm)
			other = other[:len(other)-4]
			other = binary.LittleEndian.AppendUint32(other, wire.Sum(other))
			wantRefused(t, "another beginning", other, api.ErrSnapshotForm)
		}
	}
	wantRefused(t, "another layer's beginning", append([]byte("CLST"), b[4:]...), api.ErrSnapshotForm)
}

func TestLengths(t *testing.T) {
	for _, b := range [][]byte{sealed(smallBody()), sealed(make([]byte, 84))} {
		for n := range b {
			wantRefused(t, "cut", b[:n], api.ErrSnapshotForm)
		}
		for n := range 9 {
			wantRefused(t, "with more behind", append(bytes.Clone(b), make([]byte, n+1)...), api.ErrSnapshotForm)
		}
		wantRefused(t, "twice", append(bytes.Clone(b), b...), api.ErrSnapshotForm)
		n := uint32(len(b) - 16)
		for _, other := range []uint32{0, 1, n - 4, n - 1, n + 1, n + 3, n + 4, n + 8, n + 12, n + 16, math.MaxInt32, math.MaxInt32 + 1, math.MaxUint32 - 15, math.MaxUint32 - 3, math.MaxUint32} {
			wantRefused(t, "another length", withWord(b, 8, other), api.ErrSnapshotForm)
		}
	}
	for n := range 17 {
		wantRefused(t, "noughts", make([]byte, n), api.ErrSnapshotForm)
	}
	wantRefused(t, "nothing", nil, api.ErrSnapshotForm)
}

// TestShortBodies: with right sums, so that it is the body that is refused.
func TestShortBodies(t *testing.T) {
	for _, body := range [][]byte{smallBody(), make([]byte, 84)} {
		for n := range body {
			wantRefused(t, "a body that is cut", sealed(body[:n]), api.ErrSnapshotForm)
		}
		for n := range 9 {
			wantRefused(t, "noughts behind the last arrival", sealed(append(bytes.Clone(body), make([]byte, n+1)...)), api.ErrSnapshotForm)
		}
		wantRefused(t, "bytes behind the last arrival", sealed(append(bytes.Clone(body), 1, 2, 3, 4)), api.ErrSnapshotForm)
	}
}

func TestFlags(t *testing.T) {
	body, p := bodyOf(small())
	for _, at := range p.flags {
		for n := 2; n < 256; n++ {
			wantRefused(t, "a flag that is none", sealed(with(body, at, byte(n))), api.ErrSnapshotForm)
		}
		b := sealed(with(body, at, 1-body[at]))
		if e := asModel(t, "a flag turned", b); e != api.OK {
			t.Errorf("a flag turned at %d: %d", at, e)
		}
	}
}

func TestPadding(t *testing.T) {
	body, p := bodyOf(small())
	for _, at := range p.pads {
		for n := 1; n < 256; n++ {
			wantRefused(t, "padding that is not 0", sealed(with(body, at, byte(n))), api.ErrSnapshotForm)
		}
	}
}

func TestLongInts(t *testing.T) {
	body, p := bodyOf(small())
	for _, at := range p.longs {
		for _, n := range []byte{0x80, 0x81, 0xff} {
			wantRefused(t, "an int of 64 bits", sealed(with(body, at+7, n)), api.ErrSnapshotForm)
		}
		most := bytes.Clone(body)
		binary.LittleEndian.PutUint64(most[at:], math.MaxInt64)
		if e := asModel(t, "the greatest int", sealed(most)); e != api.OK {
			t.Errorf("the greatest int at %d: %d", at, e)
		}
		binary.LittleEndian.PutUint64(most[at:], math.MaxInt64+1)
		wantRefused(t, "one more", sealed(most), api.ErrSnapshotForm)
	}
}

// TestCounts: other numbers than there are things; none takes much time or
// memory.
func TestCounts(t *testing.T) {
	body, p := bodyOf(small())
	var ahead, behind runtime.MemStats
	runtime.ReadMemStats(&ahead)
	for _, at := range p.counts {
		n := binary.LittleEndian.Uint32(body[at:])
		for _, other := range []uint32{1 << 20, 67108864, math.MaxInt32, math.MaxInt32 + 1, math.MaxUint32 - 3, math.MaxUint32} {
			wantRefused(t, "things that are not there", sealed(withWord(body, at, other)), api.ErrSnapshotForm)
		}
		for _, other := range []uint32{n - 1, n + 1, n + 2, n + 4, n + 100} {
			asModel(t, "another number of things", sealed(withWord(body, at, other)))
		}
	}
	runtime.ReadMemStats(&behind)
	if n := behind.TotalAlloc - ahead.TotalAlloc; n > 64<<20 {
		t.Errorf("%d bytes were taken", n)
	}
}

// TestEachByte: with other numbers, against the model.
func TestEachByte(t *testing.T) {
	body := smallBody()
	right, wrong := 0, 0
	for at := range body {
		for _, n := range []byte{0, 1, 2, 3, 4, 5, 7, 8, 12, 16, 31, 32, 64, 127, 128, 129, 254, 255, body[at] ^ 1, body[at] ^ 128} {
			if asModel(t, "another byte", sealed(with(body, at, n))) == api.OK {
				right++
			} else {
				wrong++
			}
		}
	}
	if right < 2000 || wrong < 2000 {
		t.Errorf("%d right, %d wrong: the test asks too little", right, wrong)
	}
}

func TestSum(t *testing.T) {
	b := sealed(smallBody())
	for at := 12; at < len(b); at++ {
		for bit := range 8 {
			wantRefused(t, "a bit turned", with(b, at, b[at]^1<<bit), api.ErrSnapshotSum)
		}
	}
	// the sum of the body alone, of all without the length, of nothing; turned
	n := len(b) - 4
	for _, other := range []uint32{0, math.MaxUint32, wire.Sum(b[12:n]), wire.Sum(b[:8]), ^binary.LittleEndian.Uint32(b[n:])} {
		wantRefused(t, "another sum", withWord(b, n, other), api.ErrSnapshotSum)
	}
}

// TestOrder: a wrong sum is told ahead of what is wrong with the body, and what
// is wrong around both ahead of that.
func TestOrder(t *testing.T) {
	body := smallBody()
	for what, wrong := range map[string][]byte{
		"a flag": with(body, 8, 2), "padding": with(body, 9, 1), "too short": body[:len(body)-4], "nothing": nil,
		"too long": append(bytes.Clone(body), 0), "things that are not there": withWord(body, 24, 1<<31),
	} {
		b := sealed(wrong)
		wantRefused(t, what, b, api.ErrSnapshotForm)
		n := len(b) - 1
		b[n] ^= 1
		wantRefused(t, what+", and a wrong sum", b, api.ErrSnapshotSum)
		wantRefused(t, what+", a wrong sum, and too short", b[:n], api.ErrSnapshotForm)
		wantRefused(t, what+", a wrong sum, and too long", append(bytes.Clone(b), 0), api.ErrSnapshotForm)
	}
}

// TestTooLong: bytes that would be right, but for their number; and others.
func TestTooLong(t *testing.T) {
	t.Parallel()
	n := limit - 96
	body := make([]byte, 84+n)
	binary.LittleEndian.PutUint32(body[12:], uint32(n))
	b := sealed(body)
	if len(b) != limit+4 {
		t.Fatalf("%d bytes", len(b))
	}
	wantRefused(t, "four more bytes", b, api.ErrSnapshotForm)
	b[len(b)-1] ^= 1
	wantRefused(t, "four more bytes, and a wrong sum", b, api.ErrSnapshotForm)
	wantRefused(t, "one more byte", make([]byte, limit+1), api.ErrSnapshotForm)
}

// TestAnyBodies: right ones, in which some bytes, or some more, are others.
func TestAnyBodies(t *testing.T) {
	random := rand.New(rand.NewSource(2301))
	right, wrong := 0, 0
	for range 40000 {
		body, p := bodyOf(anyState(random))
		body = bytes.Clone(body)
		for range random.Intn(3) {
			body[random.Intn(len(body))] = byte(anyNumber(random, 8))
		}
		switch random.Intn(6) {
		case 0: // a row that has another number of things
			at := pick(random, p.counts...)
			binary.LittleEndian.PutUint32(body[at:], uint32(random.Intn(6)))
		case 1: // cut, and put together otherwise
			at, to := random.Intn(len(body)), random.Intn(len(body))
			body = append(body[:at:at], body[to:]...)
		}
		if asModel(t, "any body", sealed(body)) == api.OK {
			right++
		} else {
			wrong++
		}
	}
	if right < 5000 || wrong < 5000 {
		t.Errorf("%d right, %d wrong: the test asks too little", right, wrong)
	}
}

// TestAnyBytes: of all kinds, with wrong sums and lengths, too.
func TestAnyBytes(t *testing.T) {
	random := rand.New(rand.NewSource(2302))
	told := map[api.Errno]int{}
	for range 20000 {
		b, _ := written(anyState(random))
		switch random.Intn(5) {
		case 0:
			b = b[:random.Intn(len(b)+1)]
		case 1:
			b = append(b, anyBytes(random)...)
		case 2:
			b[random.Intn(len(b))] ^= 1 << random.Intn(8)
		case 3:
			b[random.Intn(16)] ^= 1 << random.Intn(8)
		}
		told[asModel(t, "any bytes", b)]++
	}
	for _, e := range []api.Errno{api.OK, api.ErrSnapshotForm, api.ErrSnapshotSum} {
		if told[e] < 2000 {
			t.Errorf("%v: the test asks too little", told)
		}
	}
}

func TestSaveNil(t *testing.T) {
	if b, e := snapshot.Save(nil); len(b) != 0 || e != api.ErrSnapshotForm {
		t.Errorf("Save(nil) = % x, %d", b, e)
	}
}
