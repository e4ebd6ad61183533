package config_test

import (
	"bytes"
	"math/rand"
	"reflect"
	"testing"

	"cloister/api"
	"cloister/config"
)

// refused is a blob that is wrong, and how.
func refused(t *testing.T, what string, b []byte, e api.Errno, place int) {
	t.Helper()
	wantDecode(t, what, b, api.Config{}, e, place)
}

func turned(b []byte, at int, bits byte) []byte {
	c := bytes.Clone(b)
	c[at] ^= bits
	return c
}

func TestBeginning(t *testing.T) {
	blob := sealed(smallBody())
	for n := range 8 {
		refused(t, "too few bytes", blob[:n], api.ErrConfigMagic, 0)
		for bit := range 8 {
			refused(t, "another beginning", turned(blob, n, 1<<bit), api.ErrConfigMagic, 0)
			// a wrong beginning is told ahead of all that follows
			refused(t, "another beginning alone", turned(blob[:8], n, 1<<bit), api.ErrConfigMagic, 0)
			refused(t, "another beginning, and more behind", append(turned(blob, n, 1<<bit), 0), api.ErrConfigMagic, 0)
		}
	}
	refused(t, "nothing", nil, api.ErrConfigMagic, 0)
}

func TestTooShort(t *testing.T) {
	blob := sealed(smallBody())
	for n := 8; n < len(blob); n++ {
		refused(t, "cut", blob[:n], api.ErrConfigShort, 8)
	}
	for _, size := range []byte{0x01, 0x7f, 0x80, 0xff} {
		long := bytes.Clone(blob)
		long[11] = size // some millions of bytes
		refused(t, "a long body", long, api.ErrConfigShort, 8)
	}
	all := append([]byte("CLST\x01\x00\x00\x00\xff\xff\xff\xff"), make([]byte, 100)...)
	refused(t, "the longest body", all, api.ErrConfigShort, 8)
	refused(t, "a Word that ends too soon", all[:11], api.ErrConfigShort, 8)
	refused(t, "no sum", append([]byte("CLST\x01\x00\x00\x00\x02\x00\x00\x00"), 0, 0, 0, 0, 0), api.ErrConfigShort, 8)
}

func TestMoreBehind(t *testing.T) {
	blob := sealed(smallBody())
	for n := range 9 {
		b := append(bytes.Clone(blob), make([]byte, n+1)...)
		refused(t, "more behind", b, api.ErrConfigBehind, len(blob))
		refused(t, "more behind a wrong sum", turned(b, len(blob)-1, 1), api.ErrConfigBehind, len(blob))
	}
	refused(t, "a body of nothing with more behind", append(sealed(nil), 1), api.ErrConfigBehind, 16)
}

func TestSum(t *testing.T) {
	blob := sealed(smallBody())
	sumAt := len(blob) - 4
	for n := 12; n < len(blob); n++ {
		for bit := range 8 {
			refused(t, "a bit that is turned", turned(blob, n, 1<<bit), api.ErrConfigSum, sumAt)
		}
	}
	// a wrong sum is told ahead of a wrong body
	refused(t, "a wrong sum of a wrong body", turned(sealed(nil), 15, 1), api.ErrConfigSum, 12)
}

func TestBodyThatEndsTooSoon(t *testing.T) {
	body := smallBody()
	for n := range body {
		b := sealed(body[:n])
		want := modelDecode(b)
		if want.e != api.ErrConfigForm {
			t.Fatalf("the model takes %d bytes of the body", n)
		}
		refused(t, "a body that ends too soon", b, api.ErrConfigForm, want.place)
	}
	for _, c := range []struct {
		what     string
		n, place int
	}{
		{"a body of nothing", 0, 0},
		{"half of Pages", 2, 0},
		{"a Major of seven bytes", 27, 20},
		{"no number of cells", 28, 28},
		{"no number of queues", 31, 31},
		{"no cell", 32, 32},
		{"a name of no bytes of four", 33, 33},
		{"a name of three bytes of four", 36, 33},
		{"a name without padding", 37, 37},
		{"a name with one byte of padding", 38, 37},
		{"an Entry of two bytes", 42, 40},
		{"no number of lines", 45, 45},
		{"numbers of ranges and lines without padding", 46, 46},
		{"a Perm without all of its padding", 63, 61},
		{"four lines of five", 84, 84},
		{"lines with two bytes of padding", 87, 85},
	} {
		refused(t, c.what, sealed(body[:c.n]), api.ErrConfigForm, 12+c.place)
	}
}

func TestPaddingThatIsNot0(t *testing.T) {
	body := smallBody()
	paddings := []int{37, 38, 39, 46, 47, 61, 62, 63, 77, 78, 79, 85, 86, 87,
		98, 99, 113, 114, 115, 117, 118, 119, 137, 138, 139, 157, 158, 159, 183, 197, 198, 199, 209, 210, 211}
	for i, at := range paddings {
		for bit := range 8 {
			refused(t, "padding", sealed(turned(body, at, 1<<bit)), api.ErrConfigForm, 12+at)
		}
		for _, later := range paddings[i+1:] {
			both := turned(turned(body, at, 1), later, 1)
			refused(t, "padding, the first byte of two", sealed(both), api.ErrConfigForm, 12+at)
		}
	}
	// that it ends too soon is asked ahead of its bytes
	refused(t, "padding that is short and not 0", sealed(turned(body, 38, 1)[:39]), api.ErrConfigForm, 12+37)
	refused(t, "padding that is short at the end", sealed(turned(body, 210, 1)[:211]), api.ErrConfigForm, 12+209)
}

func TestFlow(t *testing.T) {
	body := smallBody()
	first, second := 196, 208
	for n := 2; n < 256; n++ {
		for _, at := range []int{first, second} {
			b := bytes.Clone(body)
			b[at] = byte(n)
			refused(t, "Flow", sealed(b), api.ErrConfigForm, 12+at)
			b[at+1] = 1
			refused(t, "Flow, and padding behind it", sealed(b), api.ErrConfigForm, 12+at)
			refused(t, "Flow, and no padding behind it", sealed(b[:at+1]), api.ErrConfigForm, 12+at)
		}
	}
	b := turned(turned(body, first, 7), second, 7)
	refused(t, "two of them", sealed(b), api.ErrConfigForm, 12+first)
	b[195] = 0xff
	b[183] = 1
	refused(t, "padding ahead of it", sealed(b), api.ErrConfigForm, 12+183)

	want := small()
	want.Queues[0].Flow, want.Queues[1].Flow = false, true
	b = turned(turned(body, first, 1), second, 1)
	wantDecode(t, "0 and 1", sealed(b), want, api.OK, 0)
}

func TestMoreThanABody(t *testing.T) {
	body := smallBody()
	for n := 1; n < 9; n++ {
		refused(t, "more than a body", sealed(append(bytes.Clone(body), make([]byte, n)...)), api.ErrConfigForm, 12+len(body))
	}
	fewer := bytes.Clone(body)
	fewer[31] = 1 // a queue less
	refused(t, "a queue less", sealed(fewer), api.ErrConfigForm, 12+200)
	fewer[31] = 3
	refused(t, "a queue more", sealed(fewer), api.ErrConfigForm, 12+len(body))
}

func wantAsModel(t *testing.T, b []byte) told {
	t.Helper()
	want := modelDecode(b)
	g, e, place := config.Decode(b)
	if !reflect.DeepEqual(plain(g), plain(want.g)) || e != want.e || place != want.place {
		t.Fatalf("% x: Decode = %+v, %d, %d, want %+v, %d, %d", b, g, e, place, want.g, want.e, want.place)
	}
	return want
}

// spoilt is a body with something changed, or none at all.
func spoilt(random *rand.Rand, body []byte) []byte {
	switch random.Intn(6) {
	case 0:
		body = body[:random.Intn(len(body)+1)]
	case 1:
		body = append(body, make([]byte, random.Intn(6))...)
	case 2:
		at := random.Intn(len(body))
		body = append(body[:at], body[at+random.Intn(len(body)-at):]...)
	case 3:
		for i := range body {
			body[i] = byte(random.Intn(3))
		}
	}
	for range random.Intn(4) {
		if len(body) > 0 {
			body[random.Intn(len(body))] = byte(random.Intn(256) >> random.Intn(8))
		}
	}
	return body
}

// TestAnyBytes: Decode tells of all bytes what the model tells, and what it
// takes is written as the same bytes.
func TestAnyBytes(t *testing.T) {
	random := rand.New(rand.NewSource(1))
	taken, times := 0, 40000
	for range times {
		blob := modelBlob(anyConfig(random, 4))
		b := sealed(spoilt(random, bytes.Clone(blob[12:len(blob)-4])))
		if random.Intn(8) == 0 {
			b = spoilt(random, b)
		}
		kept := bytes.Clone(b)
		want := wantAsModel(t, b)
		if !bytes.Equal(b, kept) {
			t.Fatalf("% x was changed", kept)
		}
		if want.e == api.OK {
			taken++
			wantEncode(t, "what was read", want.g, b, api.OK)
		}
	}
	if taken < times/100 || taken > times/2 {
		t.Errorf("%d of %d were taken: the test asks too little", taken, times)
	}
}

// TestTurnedRuns: no blob stays one if a run of up to 32 bits is turned,
// behind its Word.
func TestTurnedRuns(t *testing.T) {
	random := rand.New(rand.NewSource(2))
	for range 200 {
		blob := modelBlob(anyConfig(random, 3))
		for range 200 {
			b := bytes.Clone(blob)
			length := 1 + random.Intn(32)
			from := 96 + random.Intn(8*len(b)-96-length+1)
			for i := range length {
				// the ends of the run are turned, and what is between them perhaps
				if i == 0 || i == length-1 || random.Intn(2) == 0 {
					b[(from+i)/8] ^= 1 << ((from + i) % 8)
				}
			}
			refused(t, "a run of bits that is turned", b, api.ErrConfigSum, len(b)-4)
		}
	}
}
