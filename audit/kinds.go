package audit

import "cloister/api"

// Numbers of hypercalls (layer 20), and what is answered to one that was done.
const (
	callSend uint32 = iota + 3
	callReceive
	callHalt uint32 = 11
	done     uint32 = 0
)

// isFormed: are A and B what the observation's kind has?
func isFormed(o api.Obs) bool {
	switch o.Kind {
	case api.ObsLoad, api.ObsCall:
		return true
	case api.ObsFault:
		return o.A >= uint32(api.FaultAlign) && o.A <= uint32(api.FaultIllegal)
	case api.ObsIrq, api.ObsSay:
		return o.B == 0
	case api.ObsClock:
		return uint64(o.B)<<32|uint64(o.A) == o.Tick
	case api.ObsHalt:
		return o.A == 0 && o.B == 0
	}
	return false
}

// isHalt: does the cell observe nothing any more?
func isHalt(o api.Obs) bool {
	return o.Kind == api.ObsHalt || o.Kind == api.ObsFault || isCall(o, callHalt)
}

func isSent(o api.Obs) bool { return isCall(o, callSend) && o.B == done }

// isReceived: what is answered is a message's length then, and no code.
func isReceived(o api.Obs) bool { return isCall(o, callReceive) && o.B <= api.MaxMessage }

func isCall(o api.Obs, number uint32) bool { return o.Kind == api.ObsCall && o.A == number }
