package monitor

import (
	"sync"

	"cloister/api"
)

// ahead is how many observations may be told that were not heard yet.
const ahead = 256

// heard is all that was told over a channel, which is closed when nothing more
// is told.
func heard(tell func(told chan<- api.Obs)) []api.Obs {
	var all []api.Obs
	var listening sync.WaitGroup
	told := make(chan api.Obs, ahead)
	listening.Add(1)
	go func() {
		defer listening.Done()
		for o := range told {
			all = append(all, o)
		}
	}()
	tell(told)
	close(told)
	listening.Wait()
	return all
}
