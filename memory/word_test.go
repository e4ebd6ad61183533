package memory_test

import (
	"math"
	"testing"

	"cloister/api"
)

func TestWordsOfEachSize(t *testing.T) {
	const v = 0x89abcdef
	for _, c := range []struct {
		size  int
		bytes []byte
	}{{1, []byte{0xef}}, {2, []byte{0xef, 0xcd}}, {4, []byte{0xef, 0xcd, 0xab, 0x89}}} {
		for _, at := range []uint32{0, 4, 4092, 4096 - uint32(c.size), 4096, 8192 - uint32(c.size)} {
			m := counting(t, 2)
			want := content(t, m)
			copy(want[at:], c.bytes)
			wantErrno(t, "Store", m.Store(at, c.size, v), api.OK)
			wantContent(t, "behind a Store", m, want)
			if got, e := m.Load(at, c.size); got != v&(1<<(8*c.size)-1) || e != api.OK {
				t.Errorf("Load(%d, %d) = %x, %d", at, c.size, got, e)
			}
		}
	}
}

// TestWordErrors: which error comes first, of Load and of Store; nothing is
// changed, and beside an error the word is 0.
func TestWordErrors(t *testing.T) {
	m := counting(t, 2)
	before := content(t, m)
	for _, c := range []struct {
		at   uint32
		size int
		e    api.Errno
	}{
		{0, 0, api.ErrMemoryArg}, {0, 3, api.ErrMemoryArg}, {0, 5, api.ErrMemoryArg}, {0, 8, api.ErrMemoryArg},
		{0, -1, api.ErrMemoryArg}, {0, -2, api.ErrMemoryArg}, {0, -4, api.ErrMemoryArg},
		{0, math.MaxInt, api.ErrMemoryArg}, {0, math.MinInt, api.ErrMemoryArg},
		{0, 1<<32 + 1, api.ErrMemoryArg}, {0, 1<<32 + 4, api.ErrMemoryArg}, {0, 1 << 32, api.ErrMemoryArg},
		{1, 3, api.ErrMemoryArg}, {8192, 3, api.ErrMemoryArg}, {math.MaxUint32, 0, api.ErrMemoryArg},
		{1, 2, api.ErrMemoryAlign}, {1, 4, api.ErrMemoryAlign}, {2, 4, api.ErrMemoryAlign}, {3, 4, api.ErrMemoryAlign}, {3, 2, api.ErrMemoryAlign},
		{4095, 2, api.ErrMemoryAlign}, {4094, 4, api.ErrMemoryAlign}, {8191, 2, api.ErrMemoryAlign}, {8190, 4, api.ErrMemoryAlign},
		{8193, 2, api.ErrMemoryAlign}, {8194, 4, api.ErrMemoryAlign}, {math.MaxUint32, 2, api.ErrMemoryAlign}, {math.MaxUint32 - 1, 4, api.ErrMemoryAlign},
		{8192, 1, api.ErrMemoryOutside}, {8192, 2, api.ErrMemoryOutside}, {8192, 4, api.ErrMemoryOutside}, {8193, 1, api.ErrMemoryOutside},
		{1 << 24, 4, api.ErrMemoryOutside}, {1 << 31, 4, api.ErrMemoryOutside},
		{math.MaxUint32, 1, api.ErrMemoryOutside}, {math.MaxUint32 - 1, 2, api.ErrMemoryOutside}, {math.MaxUint32 - 3, 4, api.ErrMemoryOutside},
	} {
		if v, e := m.Load(c.at, c.size); v != 0 || e != c.e {
			t.Errorf("Load(%d, %d) = %d, %d, want 0, %d", c.at, c.size, v, e, c.e)
		}
		if e := m.Store(c.at, c.size, 0x5a5a5a5a); e != c.e {
			t.Errorf("Store(%d, %d) = %d, want %d", c.at, c.size, e, c.e)
		}
	}
	wantContent(t, "behind calls that were refused", m, before)
}

// TestLastWords: the greatest memory takes words up to its end.
func TestLastWords(t *testing.T) {
	m := newMemory(t, 4096)
	for _, size := range []int{1, 2, 4} {
		at := uint32(1<<24 - size)
		wantErrno(t, "Store of the last word", m.Store(at, size, 0xffffffff), api.OK)
		if v, e := m.Load(at, size); v != 1<<(8*size)-1 || e != api.OK {
			t.Errorf("Load(%d, %d) = %x, %d", at, size, v, e)
		}
		wantErrno(t, "Store behind it", m.Store(1<<24, size, 1), api.ErrMemoryOutside)
	}
}

// TestWordIsItsBytes: a store of 4 bytes is four of one, the lowest first.
func TestWordIsItsBytes(t *testing.T) {
	for _, v := range []uint32{0, 1, 0x80, 0xff, 0x100, 0x7fffffff, 0x80000000, 0xdeadbeef, math.MaxUint32} {
		for _, size := range []int{1, 2, 4} {
			a, b := counting(t, 1), counting(t, 1)
			a.Store(8, size, v)
			for i := range size {
				b.Store(uint32(8+i), 1, v>>(8*i))
			}
			if !a.Equal(b) {
				t.Errorf("Store(8, %d, %x) is not its bytes", size, v)
			}
			sum := uint32(0)
			for i := range size {
				part, _ := a.Load(uint32(8+i), 1)
				sum |= part << (8 * i)
			}
			if got, _ := a.Load(8, size); got != sum {
				t.Errorf("Load(8, %d) = %x, its bytes are %x", size, got, sum)
			}
		}
	}
}

func TestStoreOfNoughtTakesAway(t *testing.T) {
	m := newMemory(t, 1)
	m.Store(4, 4, math.MaxUint32)
	m.Store(4, 2, 0xabcd0000)
	wantBytes(t, m, 2, 0, 0, 0, 0, 0xff, 0xff, 0, 0)
}
