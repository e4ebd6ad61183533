package trace

import "cloister/api"

const (
	wordDigits = 8  // of a number of 32 bits
	longDigits = 16 // of one of 64
)

// tail is how that is written and read which stands behind PC, in a line of a
// kind.
type tail struct {
	word  string
	write func(s *sheet, o api.Obs)
	read  func(l *line, o *api.Obs)
}

// tails stand by the kinds; the first one is of no kind, and has no word.
func tails() []tail {
	return []tail{
		api.ObsLoad:  {"load", (*sheet).both, (*line).both},
		api.ObsCall:  {"call", (*sheet).both, (*line).both},
		api.ObsFault: {"fault", (*sheet).fault, (*line).fault},
		api.ObsIrq:   {"irq", (*sheet).irq, (*line).irq},
		api.ObsClock: {"clock", (*sheet).clock, (*line).clock},
		api.ObsHalt:  {"halt", (*sheet).nothing, (*line).nothing},
		api.ObsSay:   {"say", (*sheet).said, (*line).said},
	}
}

// faultNames stand by the faults; none has no name.
var faultNames = [...]string{
	api.FaultAlign:     "align",
	api.FaultOutside:   "outside",
	api.FaultUnmapped:  "unmapped",
	api.FaultMalformed: "malformed",
	api.FaultDenied:    "denied",
	api.FaultIllegal:   "illegal",
}

func (s *sheet) both(o api.Obs) {
	s.hexadecimal(uint64(o.A), wordDigits)
	s.hexadecimal(uint64(o.B), wordDigits)
}

func (l *line) both(o *api.Obs) {
	o.A = uint32(l.hexadecimal(wordDigits))
	o.B = uint32(l.hexadecimal(wordDigits))
}

func (s *sheet) fault(o api.Obs) {
	s.word(faultNames[o.A])
	s.hexadecimal(uint64(o.B), wordDigits)
}

// fault leaves A as it is, 0, if the word is no fault's: that may not be.
func (l *line) fault(o *api.Obs) {
	w := l.word()
	for fault, name := range faultNames {
		if name == w {
			o.A = uint32(fault)
		}
	}
	o.B = uint32(l.hexadecimal(wordDigits))
}

func (s *sheet) irq(o api.Obs) { s.decimal(uint64(o.A)) }

func (l *line) irq(o *api.Obs) { o.A = uint32(l.decimal(lastLine)) }

func (s *sheet) clock(o api.Obs) {
	s.hexadecimal(uint64(o.B)<<32|uint64(o.A), longDigits)
}

func (l *line) clock(o *api.Obs) {
	n := l.hexadecimal(longDigits)
	o.A, o.B = uint32(n), uint32(n>>32)
}

func (s *sheet) nothing(api.Obs) {}

func (l *line) nothing(*api.Obs) {}

func (s *sheet) said(o api.Obs) { s.hexadecimal(uint64(o.A), wordDigits) }

func (l *line) said(o *api.Obs) { o.A = uint32(l.hexadecimal(wordDigits)) }
