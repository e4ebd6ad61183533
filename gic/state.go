package gic

import "cloister/api"

// State is all that it knows.
func (g *Gic) State() api.GicState { return g.state }

// Load has it know that.
func (g *Gic) Load(s api.GicState) api.Errno {
	for _, cell := range s.Route {
		if !isGoal(cell) {
			return api.ErrGicCell
		}
	}
	for line := range each(s.Pending | s.Masked) {
		if s.Route[line] == nobody {
			return api.ErrGicLine
		}
	}
	g.state = s
	return api.OK
}
