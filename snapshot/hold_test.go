package snapshot_test

import (
	"bytes"
	"math/rand"
	"testing"

	"cloister/api"
	"cloister/snapshot"
)

// TestOneForm: Decode of Encode is the state, and Encode of what Decode gives
// is the bytes.
func TestOneForm(t *testing.T) {
	random := rand.New(rand.NewSource(2303))
	for range 10000 {
		s := anyState(random)
		want, _ := written(s)
		b, e := snapshot.Encode(s)
		if e != api.OK || !bytes.Equal(b, want) {
			t.Fatalf("Encode = % x, %d, want % x", b, e, want)
		}
		again, e := snapshot.Decode(b)
		if e != api.OK || !same(again, s) {
			t.Fatalf("Decode of % x = %d, or another state", b, e)
		}
		if c, e := snapshot.Encode(again); e != api.OK || !bytes.Equal(c, b) {
			t.Fatalf("Encode of what was read = % x, %d, want % x", c, e, b)
		}
	}
}

// TestNoOtherForm: bytes that are another state's, or none's, if they differ.
func TestNoOtherForm(t *testing.T) {
	random := rand.New(rand.NewSource(2304))
	read := 0
	for range 20000 {
		s := anyState(random)
		body, _ := bodyOf(s)
		for range 1 + random.Intn(3) {
			body[random.Intn(len(body))] ^= byte(1 + random.Intn(255))
		}
		b := sealed(body)
		other, e := snapshot.Decode(b)
		if e != api.OK {
			continue
		}
		read++
		if c, e := snapshot.Encode(other); e != api.OK || !bytes.Equal(c, b) {
			t.Fatalf("% x is read, and written as % x, %d", b, c, e)
		}
		first, _ := written(s)
		if same(other, s) != bytes.Equal(b, first) {
			t.Fatalf("% x and % x are the bytes of one state", b, first)
		}
	}
	if read < 2000 {
		t.Errorf("%d were read: the test asks too little", read)
	}
}

// turn turns a run of bits that begins at a bit; its first and its last one are
// turned, and some between them.
func turn(random *rand.Rand, b []byte, from, length int) []byte {
	b = bytes.Clone(b)
	for i := range length {
		if i == 0 || i == length-1 || random.Intn(2) == 0 {
			b[(from+i)/8] ^= 1 << ((from + i) % 8)
		}
	}
	return b
}

func TestRunsOfTurnedBits(t *testing.T) {
	random := rand.New(rand.NewSource(2305))
	for _, b := range [][]byte{sealed(smallBody()), sealed(make([]byte, 84))} {
		for length := 1; length <= 32; length++ {
			for from := 12 * 8; from+length <= len(b)*8; from += 1 + random.Intn(3*length) {
				wantRefused(t, "a run of turned bits", turn(random, b, from, length), api.ErrSnapshotSum)
			}
			wantRefused(t, "a run behind the body's Word", turn(random, b, 12*8, length), api.ErrSnapshotSum)
			wantRefused(t, "a run up to the end", turn(random, b, len(b)*8-length, length), api.ErrSnapshotSum)
		}
		wantRefused(t, "all bits of the sum", turn(rand.New(ones{}), b, len(b)*8-32, 32), api.ErrSnapshotSum)
	}
}

// ones has no chance in it: each bit of a run is turned.
type ones struct{}

func (ones) Int63() int64 { return 0 }

func (ones) Seed(int64) {}
