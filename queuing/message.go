package queuing

import "cloister/api"

// copied is a message whose bytes are new memory.
func copied(m api.Message) api.Message {
	m.Data = append([]byte(nil), m.Data...)
	return m
}

// copiedAll is messages in new memory, each one's bytes, too.
func copiedAll(l []api.Message) []api.Message {
	var out []api.Message
	for _, m := range l {
		out = append(out, copied(m))
	}
	return out
}

// bytesOf is how many bytes messages have together.
func bytesOf(l []api.Message) int {
	n := 0
	for _, m := range l {
		n += len(m.Data)
	}
	return n
}
