package trace

import (
	"math"

	"cloister/api"
)

const (
	whole      = math.MaxUint32
	firstFault = uint32(api.FaultAlign)
	lastFault  = uint32(api.FaultIllegal)
	lastLine   = api.Lines - 1
)

// bounds of what an observation has beside its place.
type bounds struct{ leastA, mostA, mostB uint32 }

// kindBounds stand by the kinds. A clock's halves are a tick, so that the upper
// one has a bit less.
var kindBounds = [...]bounds{
	api.ObsLoad:  {mostA: whole, mostB: whole},
	api.ObsCall:  {mostA: whole, mostB: whole},
	api.ObsFault: {leastA: firstFault, mostA: lastFault, mostB: whole},
	api.ObsIrq:   {mostA: lastLine},
	api.ObsClock: {mostA: whole, mostB: api.MaxTick >> 32},
	api.ObsHalt:  {},
	api.ObsSay:   {mostA: whole},
}

// mayBe tells whether an observation can be written.
func mayBe(o api.Obs) bool {
	if o.Cell < 1 || o.Cell > api.MaxCells || o.Tick > api.MaxTick || o.Kind < api.ObsLoad || o.Kind > api.ObsSay {
		return false
	}
	b := kindBounds[o.Kind]
	return b.leastA <= o.A && o.A <= b.mostA && o.B <= b.mostB
}

func allMayBe(l []api.Obs) bool {
	for _, o := range l {
		if !mayBe(o) {
			return false
		}
	}
	return true
}
