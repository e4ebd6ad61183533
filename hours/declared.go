package hours

import "cloister/api"

func isMajor(major uint64) bool { return major >= 1 && major <= api.MaxMajor }

func isCell(cell int) bool { return cell >= 1 && cell <= api.MaxCells }

// fit: are these the windows of a major frame, one behind the other?
func fit(major uint64, l []api.Window) bool {
	if len(l) < 1 || len(l) > api.MaxWindows {
		return false
	}
	var free uint64 // the first tick behind all windows ahead
	for _, w := range l {
		if !isCell(w.Cell) || w.Length < 1 || w.Start < free || !within(major, w) {
			return false
		}
		free = w.Start + w.Length
	}
	return true
}

// within: does a window end at major at most? (Its end may wrap round, and is
// not worked out.)
func within(major uint64, w api.Window) bool {
	return w.Start <= major && w.Length <= major-w.Start
}
