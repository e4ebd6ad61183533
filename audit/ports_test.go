package audit_test

import (
	"math"
	"testing"

	"cloister/api"
)

// TestReceived: by whom, and how long, where enough was sent by all. (Cell 2
// reads queues of Size 8, 64 and 16, cell 1 one of 256; the others read none.)
func TestReceived(t *testing.T) {
	sends := []api.Obs{sent(100, 1), sent(10100, 2), sent(26000, 3), sent(28000, 4)}
	at := map[int]uint64{1: 60100, 2: 70100, 3: 86000, 4: 88000}
	longest := map[int]uint32{1: 256, 2: 64}
	for _, length := range []uint32{0, 1, 3, 4, 8, 12, 16, 17, 60, 63, 64, 65, 68, 128, 252, 255, 256} {
		for cell, tick := range at {
			e, place := api.ErrAuditPort, 4
			if most, reads := longest[cell]; reads && length <= most {
				e, place = api.OK, 0
			}
			wantCheck(t, four(), ever, e, place, append(sends[:4:4], received(tick, cell, length))...)
		}
	}
}

// TestNotReceived: what a call answered that is no message's length, or that is
// no such call, is held against no port.
func TestNotReceived(t *testing.T) {
	for cell, tick := range map[int]uint64{1: 100, 2: 10100, 3: 26000, 4: 28000} {
		for _, code := range []uint32{257, 260, 300, 1 << 16, 1 << 31, 1<<31 + 4, most - 5, most - 4, most - 3, most - 1, most} {
			wantCheck(t, four(), ever, api.OK, 0, received(tick, cell, code), obs(tick+60000, cell, api.ObsCall, receive, code))
		}
		for _, number := range []uint32{0, 1, 2, 3, 5, 6, 7, 8, 9, 10, 11, 12, 1<<31 + 4, most} {
			wantCheck(t, four(), ever, api.OK, 0, obs(tick, cell, api.ObsCall, number, 4))
			wantCheck(t, four(), ever, api.OK, 0, obs(tick, cell, api.ObsCall, number, 0))
		}
		wantCheck(t, four(), ever, api.OK, 0, obs(tick, cell, api.ObsLoad, receive, 4))
		wantCheck(t, four(), ever, api.OK, 0, obs(tick, cell, api.ObsSay, receive, 0))
		wantCheck(t, four(), ever, api.OK, 0, obs(tick, cell, api.ObsFault, receive, 4))
		wantCheck(t, four(), ever, api.ErrAuditPort, 0, received(tick, cell, 4))
	}
}

// TestSent: just a call 3 that was answered by 0 is a message, of just the
// writers of a queue that the cell reads.
func TestSent(t *testing.T) {
	g := four()
	one := received(70100, 2, 4)
	for cell, tick := range map[int]uint64{1: 100, 2: 10100, 3: 26000, 4: 28000} {
		e, place := api.OK, 0
		if cell == 2 || cell == 4 {
			e, place = api.ErrAuditPort, 1
		}
		wantCheck(t, g, ever, e, place, sent(tick, cell), one)
		for _, code := range []uint32{1, 4, 8, 256, 1 << 31, most - 5, most - 3, most - 2, most - 1, most} {
			wantCheck(t, g, ever, api.ErrAuditPort, 1, obs(tick, cell, api.ObsCall, send, code), one)
		}
		for _, number := range []uint32{0, 1, 2, 5, 6, 7, 9, 10, 12, 1<<31 + 3, most} {
			wantCheck(t, g, ever, api.ErrAuditPort, 1, obs(tick, cell, api.ObsCall, number, 0), one)
		}
		wantCheck(t, g, ever, api.ErrAuditPort, 1, obs(tick, cell, api.ObsLoad, send, 0), one)
		wantCheck(t, g, ever, api.ErrAuditPort, 1, obs(tick, cell, api.ObsSay, send, 0), one)
	}
}

// TestSamplesAreNoQueues: who writes to a cell by a sampling port alone sends
// it nothing.
func TestSamplesAreNoQueues(t *testing.T) {
	g := pair()
	g.Samples = []api.Sample{{Writer: 1, Size: 64, Readers: []int{2}}}
	wantCheck(t, g, ever, api.ErrAuditPort, 2, sent(0, 1), obs(50, 1, api.ObsCall, 1, 0), received(5000, 2, 4))
	wantCheck(t, g, ever, api.OK, 0, sent(0, 1), obs(50, 1, api.ObsCall, 1, 0), obs(5000, 2, api.ObsCall, 2, 4))
	g.Queues = []api.Queue{{Writer: 1, Reader: 2, Size: 8, Depth: 1, Quota: 1}}
	wantCheck(t, g, ever, api.ErrAuditPort, 1, sent(0, 1), received(5000, 2, 12))
	wantCheck(t, g, ever, api.OK, 0, sent(0, 1), received(5000, 2, 8))
}

// TestAsManyAsWereSent: and not one more, whoever of the writers sent them, each
// counted once (though cell 1 writes two queues that cell 2 reads).
func TestAsManyAsWereSent(t *testing.T) {
	for ones := range 5 {
		for threes := range 4 {
			var l []api.Obs
			for i := range ones {
				l = append(l, sent(100+uint64(i), 1))
			}
			l = append(l, sent(10100, 2), received(10101, 2, most), sent(21941, 1))
			for i := range threes {
				l = append(l, sent(26000+uint64(i), 3))
			}
			l = append(l, sent(28000, 4))
			for i := range ones + 1 + threes {
				l = append(l, received(40000+uint64(i), 2, uint32(i*4)))
			}
			wantCheck(t, four(), ever, api.OK, 0, l...)
			wantCheck(t, four(), ever, api.ErrAuditPort, len(l), append(l[:len(l):len(l)], received(55845, 2, 0))...)
			wantCheck(t, four(), ever, api.ErrAuditPort, len(l), append(l[:len(l):len(l)], received(70100, 2, 64), received(70101, 2, 64))...)
			wantCheck(t, four(), ever, api.OK, 0, append(l[:len(l):len(l)], seen(50000, 2), sent(60100, 1), received(70100, 2, 64))...)
		}
	}
}

// TestEachReaderCountsItsOwn: what one has received is not received by another.
func TestEachReaderCountsItsOwn(t *testing.T) {
	g := four()
	l := []api.Obs{sent(100, 1), sent(101, 1), received(10100, 2, 0), sent(10101, 2), received(10102, 2, 4), sent(10103, 2), received(21000, 1, 256), received(21001, 1, 0)}
	wantCheck(t, g, ever, api.OK, 0, l...)
	wantCheck(t, g, ever, api.ErrAuditPort, 8, append(l, received(21002, 1, 0))...)
	wantCheck(t, g, ever, api.ErrAuditPort, 8, append(l, received(40000, 2, 0))...)
}

// TestSentBehind: what is sent behind a message that was received is no excuse
// for it, and the place stays.
func TestSentBehind(t *testing.T) {
	wantCheck(t, four(), ever, api.ErrAuditPort, 0, received(10100, 2, 4), sent(21000, 1), sent(26000, 3), received(40000, 2, 4))
	wantCheck(t, four(), ever, api.ErrAuditPort, 0, received(10100, 2, 4), sent(100, 1))
	wantCheck(t, four(), ever, api.ErrAuditPort, 1, seen(200, 1), received(10100, 2, 4), sent(100, 1), sent(101, 1))
}

// TestSentByWhoHalted: by then, or later: it was sent.
func TestSentByWhoHalted(t *testing.T) {
	for _, last := range ends(200, 1) {
		wantCheck(t, four(), ever, api.OK, 0, sent(100, 1), last, received(10100, 2, 4))
		wantCheck(t, four(), ever, api.ErrAuditPort, 1, last, received(10100, 2, 4))
	}
}

// TestReceivedLongAgo: messages wait for any time.
func TestReceivedLongAgo(t *testing.T) {
	g := pair()
	g.Queues = []api.Queue{{Writer: 1, Reader: 2, Size: 8, Depth: 1, Quota: 1}}
	wantCheck(t, g, ever, api.OK, 0, sent(0, 1), received(maxTick, 2, 8))
	wantCheck(t, g, ever, api.ErrAuditPort, 2, sent(0, 1), received(5000, 2, 8), received(maxTick, 2, 8))
	wantCheck(t, g, ever, api.OK, 0, sent(0, 1), sent(1e18, 1), received(maxTick-1, 2, 8), received(maxTick, 2, 8))
}

// TestAllToOne: seven writers, and one that reads all their queues.
func TestAllToOne(t *testing.T) {
	g := machine(8)
	g.Shape = api.Shape{Sets: 1, Ways: 1, Line: 16}
	for i := range 8 {
		g.Windows = append(g.Windows, api.Window{Cell: i + 1, Start: uint64(i) * 10000, Length: 10000})
	}
	g.Major = 80000
	for i := range 14 {
		g.Queues = append(g.Queues, api.Queue{Writer: 1 + i%7, Reader: 8, Size: 4 * (i + 1), Depth: 1, Quota: 1})
	}
	for n := range 50 {
		var l []api.Obs
		for i := range n {
			l = append(l, sent(uint64(i*7/n*10000+i), 1+i*7/n))
		}
		for i := range n {
			l = append(l, received(70000+uint64(i), 8, uint32(i*4%57)))
		}
		wantCheck(t, g, ever, api.OK, 0, l...)
		wantCheck(t, g, ever, api.ErrAuditPort, 2*n, append(l, received(71000, 8, 0))...)
		wantCheck(t, g, ever, api.ErrAuditPort, 2*n+1, append(l, sent(70999, 8), received(71000, 8, 0))...)
	}
	wantCheck(t, g, ever, api.ErrAuditPort, 1, sent(0, 1), received(70000, 8, math.MaxUint8))
}
