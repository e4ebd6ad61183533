package valid

import "cloister/api"

func wrongWindow(g api.Config) (int, bool) {
	if len(g.Windows) == 0 {
		return 0, true
	}
	var end uint64 // of the window ahead
	return firstWrong(g.Windows, api.MaxWindows, func(w api.Window) bool {
		early, late := w.Start < end, w.Start > g.Major || w.Length > g.Major-w.Start
		if early || late || w.Length == 0 || !isCell(g, w.Cell) {
			return true
		}
		end = w.Start + w.Length
		return false
	})
}

// shortWindow: one in which its cell might not do a step.
func shortWindow(g api.Config) (int, bool) {
	return firstWrong(g.Windows, api.MaxWindows, func(w api.Window) bool {
		return w.Length < MaxStep(g, w.Cell)+Switch(g, w.Cell)
	})
}
