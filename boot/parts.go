package boot

import "cloister/api"

// refused is what a part is given up with, by panic.
type refused struct {
	e api.Errno
}

// toldBy passes on what is no refused part: that would be a fault of the
// program.
func toldBy(given any) api.Errno {
	r, ok := given.(refused)
	if !ok {
		panic(given)
	}
	return r.e
}

// each makes something of each part of a list, and gives up at the first that
// is refused.
func each[P, M any](parts []P, one func(P) (M, api.Errno)) []M {
	var made []M
	for _, p := range parts {
		made = append(made, sure(one(p)))
	}
	return made
}

// sure is what was made, if it was not refused.
func sure[M any](made M, e api.Errno) M {
	if e != api.OK {
		panic(refused{e})
	}
	return made
}
