package wire

// sumPattern is the polynomial of CRC-32, its highest term in the lowest bit.
const sumPattern = 0xedb88320

// Sum is the CRC-32 of some texts, one behind the other.
func Sum(parts ...[]byte) uint32 {
	state := ^uint32(0)
	for _, part := range parts {
		for _, b := range part {
			state = sumByte(state, b)
		}
	}
	return ^state
}

func sumByte(state uint32, b byte) uint32 {
	state ^= uint32(b)
	for range 8 {
		out := state & 1
		state >>= 1
		if out == 1 {
			state ^= sumPattern
		}
	}
	return state
}
