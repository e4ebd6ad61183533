package sampling

import "cloister/api"

// slot has a message, or none; then it is all noughts.
type slot struct {
	there   bool
	message api.Message // its bytes are nobody else's
}

// copied is a message whose bytes are new memory.
func copied(m api.Message) api.Message {
	m.Data = append([]byte(nil), m.Data...)
	return m
}
