package config_test

import (
	"bytes"
	"reflect"
	"testing"

	"cloister/api"
	"cloister/config"
	"cloister/wire"
)

// small is a configuration with something of everything.
func small() api.Config {
	return api.Config{
		Pages: 0x01020304, OwnBase: 0x05060708, OwnPages: 0x090a0b0c,
		Shape: api.Shape{Sets: 0x0d0e, Ways: 0x0f10, Line: 0x1112},
		Slots: 0x1314, Major: 0x15161718191a1b1c,
		Cells: []api.Cell{
			{Name: "eins", Entry: 0x1d1e1f20, Lines: []int{0x21, 0x22, 0x23, 0x24, 0x25}, Ranges: []api.Range{
				{Virtual: 0x26272829, Physical: 0x2a2b2c2d, Pages: 0x2e2f3031, Perm: 0x32},
				{Virtual: 0x33343536, Physical: 0x3738393a, Pages: 0x3b3c3d3e, Perm: 0x3f},
			}},
			{Name: "two", Ranges: []api.Range{{Pages: 1}}},
		},
		Windows: []api.Window{{Cell: 0x40, Start: 0x4142434445464748, Length: 0x494a4b4c4d4e4f50}, {Cell: 0x51}, {Length: 0x52}},
		Samples: []api.Sample{{Writer: 0x53, Size: 0x5455, Readers: []int{0x56, 0x57, 0x58}}, {}},
		Queues: []api.Queue{
			{Writer: 0x59, Reader: 0x5a, Size: 0x5b5c, Depth: 0x5d5e, Quota: 0x5f60, Flow: true},
			{Quota: 0x61},
		},
	}
}

// smallBody is its body, written out by hand.
func smallBody() []byte {
	return []byte{
		0x04, 0x03, 0x02, 0x01, 0x08, 0x07, 0x06, 0x05, 0x0c, 0x0b, 0x0a, 0x09,
		0x0e, 0x0d, 0x10, 0x0f, 0x12, 0x11, 0x14, 0x13,
		0x1c, 0x1b, 0x1a, 0x19, 0x18, 0x17, 0x16, 0x15,
		2, 3, 2, 2,

		4, 'e', 'i', 'n', 's', 0, 0, 0, 0x20, 0x1f, 0x1e, 0x1d, 2, 5, 0, 0,
		0x29, 0x28, 0x27, 0x26, 0x2d, 0x2c, 0x2b, 0x2a, 0x31, 0x30, 0x2f, 0x2e, 0x32, 0, 0, 0,
		0x36, 0x35, 0x34, 0x33, 0x3a, 0x39, 0x38, 0x37, 0x3e, 0x3d, 0x3c, 0x3b, 0x3f, 0, 0, 0,
		0x21, 0x22, 0x23, 0x24, 0x25, 0, 0, 0,

		3, 't', 'w', 'o', 0, 0, 0, 0, 1, 0, 0, 0,
		0, 0, 0, 0, 0, 0, 0, 0, 1, 0, 0, 0, 0, 0, 0, 0,

		0x40, 0, 0, 0, 0x48, 0x47, 0x46, 0x45, 0x44, 0x43, 0x42, 0x41, 0x50, 0x4f, 0x4e, 0x4d, 0x4c, 0x4b, 0x4a, 0x49,
		0x51, 0, 0, 0, 0, 0, 0, 0, 0, 0, 0, 0, 0, 0, 0, 0, 0, 0, 0, 0,
		0, 0, 0, 0, 0, 0, 0, 0, 0, 0, 0, 0, 0x52, 0, 0, 0, 0, 0, 0, 0,

		0x53, 3, 0x55, 0x54, 0x56, 0x57, 0x58, 0,
		0, 0, 0, 0,

		0x59, 0x5a, 0x5c, 0x5b, 0x5e, 0x5d, 0x60, 0x5f, 1, 0, 0, 0,
		0, 0, 0, 0, 0, 0, 0x61, 0, 0, 0, 0, 0,
	}
}

// sealed lays around a body what a blob has there.
func sealed(body []byte) []byte {
	n := len(body)
	b := []byte{'C', 'L', 'S', 'T', 1, 0, 0, 0, byte(n), byte(n >> 8), byte(n >> 16), byte(n >> 24)}
	b = append(b, body...)
	sum := wire.Sum(b)
	return append(b, byte(sum), byte(sum>>8), byte(sum>>16), byte(sum>>24))
}

func wantEncode(t *testing.T, what string, g api.Config, blob []byte, e api.Errno) {
	t.Helper()
	if got, f := config.Encode(g); !bytes.Equal(got, blob) || f != e {
		t.Errorf("%s: Encode = % x, %d, want % x, %d", what, got, f, blob, e)
	}
}

// wantDecode asks with reflect, so that Equal is not asked about itself.
func wantDecode(t *testing.T, what string, b []byte, want api.Config, e api.Errno, place int) {
	t.Helper()
	g, f, at := config.Decode(b)
	if !reflect.DeepEqual(plain(g), plain(want)) || f != e || at != place {
		t.Errorf("%s: Decode = %+v, %d, %d, want %+v, %d, %d", what, g, f, at, want, e, place)
	}
}

// plain has nil for each list that has nothing, and memory of its own.
func plain(g api.Config) api.Config {
	g.Cells = append([]api.Cell(nil), g.Cells...)
	for i := range g.Cells {
		c := &g.Cells[i]
		c.Ranges = append([]api.Range(nil), c.Ranges...)
		c.Lines = append([]int(nil), c.Lines...)
	}
	g.Windows = append([]api.Window(nil), g.Windows...)
	g.Samples = append([]api.Sample(nil), g.Samples...)
	for i := range g.Samples {
		s := &g.Samples[i]
		s.Readers = append([]int(nil), s.Readers...)
	}
	g.Queues = append([]api.Queue(nil), g.Queues...)
	return g
}

func TestConfigurationOfNothing(t *testing.T) {
	blob := sealed(make([]byte, 32))
	if len(blob) != 48 {
		t.Fatalf("%d bytes", len(blob))
	}
	wantEncode(t, "nothing", api.Config{}, blob, api.OK)
	wantDecode(t, "nothing", blob, api.Config{}, api.OK, 0)
	empty := api.Config{Cells: []api.Cell{}, Windows: []api.Window{}, Samples: []api.Sample{}, Queues: []api.Queue{}}
	wantEncode(t, "empty lists", empty, blob, api.OK)

	wantDecode(t, "a byte behind", append(blob[:48:48], 0), api.Config{}, api.ErrConfigBehind, 48)
	wantDecode(t, "without the last byte", blob[:47], api.Config{}, api.ErrConfigShort, 8)
	blob[47]++
	wantDecode(t, "another last byte", blob, api.Config{}, api.ErrConfigSum, 44)
}

func TestSmallConfiguration(t *testing.T) {
	blob := sealed(smallBody())
	wantEncode(t, "small", small(), blob, api.OK)
	wantDecode(t, "small", blob, small(), api.OK, 0)
}

func TestWindowOfNoCell(t *testing.T) {
	wantEncode(t, "cell -1", api.Config{Windows: []api.Window{{Cell: -1}}}, nil, api.ErrConfigArg)
}

func TestErrorNumbers(t *testing.T) {
	got := []api.Errno{api.ErrConfigArg, api.ErrConfigMagic, api.ErrConfigShort, api.ErrConfigForm, api.ErrConfigSum, api.ErrConfigBehind}
	for i, e := range got {
		if e != api.Errno(130+i) {
			t.Errorf("error %d has the number %d, want %d", i, e, 130+i)
		}
	}
}
