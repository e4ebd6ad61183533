package wire_test

import (
	"bytes"
	"hash/crc32"
	"math/rand"
	"strings"
	"testing"

	"cloister/wire"
)

func TestSumOfKnownTexts(t *testing.T) {
	for _, c := range []struct {
		text string
		want uint32
	}{
		{"", 0},
		{"123456789", 0xcbf43926},
		{"a", 0xe8b7be43},
		{"abc", 0x352441c2},
		{"\x00", 0xd202ef8d},
		{"\x00\x00\x00\x00", 0x2144df1c},
		{"\xff", 0xff000000},
		{"\xff\xff\xff\xff", 0xffffffff},
	} {
		if got := wire.Sum([]byte(c.text)); got != c.want {
			t.Errorf("Sum(%q) = %08x, want %08x", c.text, got, c.want)
		}
	}
}

func TestSumOfParts(t *testing.T) {
	if got := wire.Sum(); got != 0 {
		t.Errorf("Sum of no part = %08x, want 0", got)
	}
	if got := wire.Sum(nil, []byte{}, nil); got != 0 {
		t.Errorf("Sum of parts that have nothing = %08x, want 0", got)
	}
	text := []byte("123456789")
	for i := range len(text) + 1 {
		for j := i; j <= len(text); j++ {
			if got := wire.Sum(text[:i], text[i:j], nil, text[j:]); got != 0xcbf43926 {
				t.Errorf("Sum of parts that end at %d, %d = %08x", i, j, got)
			}
		}
	}
	one := strings.Split("123456789", "")
	parts := make([][]byte, len(one))
	for i, s := range one {
		parts[i] = []byte(s)
	}
	if got := wire.Sum(parts...); got != 0xcbf43926 {
		t.Errorf("Sum of nine parts = %08x", got)
	}
}

func TestSumIsCRC32(t *testing.T) {
	random := rand.New(rand.NewSource(1))
	for n := range 600 {
		b := make([]byte, n)
		random.Read(b)
		cut := random.Intn(n + 1)
		if got, want := wire.Sum(b[:cut], b[cut:]), crc32.ChecksumIEEE(b); got != want {
			t.Fatalf("Sum of %d bytes = %08x, want %08x", n, got, want)
		}
	}
}

func TestSumHangsOnOrder(t *testing.T) {
	if wire.Sum([]byte("a"), []byte("b")) == wire.Sum([]byte("b"), []byte("a")) {
		t.Error("the order of the parts does not matter")
	}
}

func TestSumLeavesItsPartsAlone(t *testing.T) {
	all := []byte{1, 2, 3, 4, 5, 6}
	wire.Sum(all[:2], []byte{9}, all[3:4])
	if !bytes.Equal(all, []byte{1, 2, 3, 4, 5, 6}) {
		t.Errorf("Sum has written into its parts, or behind them: %v", all)
	}
}

func TestSumTellsTurnedBits(t *testing.T) {
	random := rand.New(rand.NewSource(2))
	b := make([]byte, 12)
	random.Read(b)
	want := wire.Sum(b)
	for from := range 8 * len(b) {
		for length := 1; length <= 32 && from+length <= 8*len(b); length++ {
			turn(b, from, length)
			if wire.Sum(b) == want {
				t.Errorf("%d bits from %d on are turned, and the sum is the same", length, from)
			}
			turn(b, from, length)
		}
	}
}

func turn(b []byte, from, length int) {
	for i := from; i < from+length; i++ {
		b[i/8] ^= 1 << (i % 8)
	}
}
