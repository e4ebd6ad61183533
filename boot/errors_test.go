package boot_test

import (
	"bytes"
	"testing"

	"cloister/api"
	"cloister/wire"
)

// summed is a blob with its own sum again.
func summed(b []byte) []byte {
	sumAt := len(b) - 4
	sum := wire.Sum(b[:sumAt])
	return append(bytes.Clone(b[:sumAt]), byte(sum), byte(sum>>8), byte(sum>>16), byte(sum>>24))
}

// wrongLoads are some that may not be, whatever the configuration is.
func wrongLoads() []api.Load { return []api.Load{load(9, 0), load(0, 0x1000, 1), load(1, 0, 1)} }

// wantError wants an error of a blob, whatever is to be laid down.
func wantError(t testing.TB, what string, blob []byte, want api.Errno) {
	t.Helper()
	wantRefused(t, what, blob, want)
	wantRefused(t, what, blob, want, load(1, 0x1000, 1, 2, 3))
	wantRefused(t, what, blob, want, wrongLoads()...)
}

// TestErrorsOfBytes: as config tells them.
func TestErrorsOfBytes(t *testing.T) {
	b := blobOf(t, good())
	wantError(t, "nothing", nil, api.ErrConfigMagic)
	wantError(t, "seven bytes", b[:7], api.ErrConfigMagic)
	wantError(t, "another beginning", append([]byte("CLSN"), b[4:]...), api.ErrConfigMagic)
	wantError(t, "another version", append([]byte("CLST\x02"), b[5:]...), api.ErrConfigMagic)
	wantError(t, "its beginning alone", b[:8], api.ErrConfigShort)
	wantError(t, "a byte too few", b[:len(b)-1], api.ErrConfigShort)
	wantError(t, "a byte too many", append(bytes.Clone(b), 0), api.ErrConfigBehind)
	for _, at := range []int{12, 20, 100, len(b) - 5, len(b) - 1} {
		turned := bytes.Clone(b)
		turned[at] ^= 0x80
		wantError(t, "a bit turned", turned, api.ErrConfigSum)
	}
	flow := bytes.Clone(b)
	flow[len(flow)-8] = 2 // of the last queue, ahead of padding and sum
	wantError(t, "a Flow of 2", summed(flow), api.ErrConfigForm)
	padding := bytes.Clone(b)
	padding[len(padding)-5] = 1
	wantError(t, "padding of 1", summed(padding), api.ErrConfigForm)
	wantError(t, "a Flow of 2, and another sum", flow, api.ErrConfigSum)
}

// change is what is done to a configuration, and what Boot says then.
type change struct {
	what string
	do   func(g *api.Config)
	want api.Errno
}

// breaks are changes by each of which one rule is broken, in the rules' order;
// none hangs on another.
func breaks() []change {
	return []change{
		{"no slots", func(g *api.Config) { g.Slots = 0 }, api.ErrValidMachine},
		{"no name", func(g *api.Config) { g.Cells[2].Name = "" }, api.ErrValidCell},
		{"an entry between words", func(g *api.Config) { g.Cells[1].Entry = 0x1002 }, api.ErrValidRange},
		{"pages of the monitor", func(g *api.Config) { g.Cells[2].Ranges[1].Physical = 20 * page }, api.ErrValidMeet},
		{"line 32", func(g *api.Config) { g.Cells[0].Lines[1] = 32 }, api.ErrValidLine},
		{"a size of 6", func(g *api.Config) { g.Samples[1].Size = 6 }, api.ErrValidSample},
		{"no quota", func(g *api.Config) { g.Queues[1].Quota = 0 }, api.ErrValidQueue},
		{"a page too few", func(g *api.Config) { g.OwnPages = 11 }, api.ErrValidRoom},
		{"a window of no ticks", func(g *api.Config) { g.Windows[2].Length = 0 }, api.ErrValidWindow},
		{"a short window", func(g *api.Config) { g.Windows[0].Length = 100 }, api.ErrValidBudget},
	}
}

// TestErrorsOfConfigurations: as valid tells them.
func TestErrorsOfConfigurations(t *testing.T) {
	for _, c := range breaks() {
		g := good()
		c.do(&g)
		b := blobOf(t, g)
		wantError(t, c.what, b, c.want)
		b[len(b)-1] ^= 1
		wantError(t, c.what+", and another sum", b, api.ErrConfigSum)
	}
	wantError(t, "a configuration of nothing", blobOf(t, api.Config{}), api.ErrValidMachine)
	wantError(t, "nine cells", blobOf(t, crowd(9)), api.ErrValidCell)
}

// TestFirstOfSeveral: whichever rules are broken, the first one is told.
func TestFirstOfSeveral(t *testing.T) {
	all := breaks()
	for i := range all {
		for j := range all {
			g := good()
			all[i].do(&g)
			all[j].do(&g)
			wantError(t, all[i].what+", "+all[j].what, blobOf(t, g), all[min(i, j)].want)
		}
	}
}

// TestAsMuchAsIsNeeded: a page less of the monitor's own is one too few, just
// as many are enough.
func TestAsMuchAsIsNeeded(t *testing.T) {
	g := good()
	g.OwnPages = 12
	booted(t, g)
	g = crowd(8)
	booted(t, g)
	g.OwnPages--
	wantError(t, "a page too few", blobOf(t, g), api.ErrValidRoom)
}
