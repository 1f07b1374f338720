package verify

import (
	"slices"

	"hindcast/api"
	"hindcast/code"
)

// askCalls finds the first function that calls itself, be it through others.
func (p *program) askCalls() error {
	calls := make([][]int, len(p.Funcs))
	for n, f := range p.Funcs {
		for _, i := range f.Code {
			if i.Op == code.Call {
				calls[n] = append(calls[n], int(i.A))
			}
		}
	}
	for n := range p.Funcs {
		if comesBack(calls, n) {
			return fault(p.routines[len(p.Systems)+n].place, api.ErrLoop)
		}
	}
	return nil
}

// askRounds finds the first instruction to which a way comes back without a step.
func (p *program) askRounds() error {
	for _, r := range p.routines {
		stepless := p.waysOf(r).stepless()
		for at, depth := range r.depths {
			if depth >= 0 && comesBack(stepless, at) {
				return fault(r.place+at, api.ErrEnd)
			}
		}
	}
	return nil
}

// stepless gives the ways on of each instruction, but of those that count a step: there all ways end.
func (w ways) stepless() [][]int {
	list := make([][]int, len(w.list))
	for at, i := range w.list {
		if i.Op != code.Step && i.Op != code.Call {
			list[at] = w.onward(at)
		}
	}
	return list
}

// comesBack tells whether one comes from a place to itself, if these lead on from each.
func comesBack(onward [][]int, from int) bool {
	seen := make([]bool, len(onward))
	open := slices.Clone(onward[from])
	for len(open) > 0 {
		at := open[len(open)-1]
		open = open[:len(open)-1]
		if at == from {
			return true
		}
		if !seen[at] {
			seen[at] = true
			open = append(open, onward[at]...)
		}
	}
	return false
}
