package verify

import (
	"slices"

	"hindcast/api"
	"hindcast/code"
)

// ways are those on which a routine's instructions may be done, one behind the other.
type ways struct {
	list  []api.Instr
	funcs []api.Routine
}

// moment is one on a way: an instruction that comes next, and how deep the stack is.
type moment struct {
	at, depth int
}

func (w ways) isThere(at int64) bool { return isBelow(at, len(w.list)) }

// next gives the instructions that may be done behind one, be they there or not.
func (w ways) next(at int) []int64 {
	i, behind := w.list[at], int64(at+1)
	var list []int64
	switch i.Op {
	case code.Ret, code.Stop:
		return nil
	case code.Zero:
		list = append(list, behind)
		fallthrough
	case code.Jump:
		return append(list, i.A)
	}
	return append(list, behind)
}

// onward gives those of next that are there.
func (w ways) onward(at int) []int {
	var list []int
	for _, n := range w.next(at) {
		if w.isThere(n) {
			list = append(list, int(n))
		}
	}
	return list
}

// behind tells the depth behind a moment, and whether the stack can do that.
func (w ways) behind(m moment) (depth int, fits bool) {
	takes, puts := code.Effect(w.list[m.at], w.funcs)
	if m.depth < takes {
		return 0, false
	}
	depth = m.depth - takes + puts
	return depth, depth <= api.MaxStack
}

// reached gives all depths of each instruction that is reached. (All, not two: a way may go on with the third one alone.)
func (w ways) reached() map[int][]int {
	known := map[int][]int{}
	open := []moment{{}}
	for len(open) > 0 {
		m := open[len(open)-1]
		open = open[:len(open)-1]
		if slices.Contains(known[m.at], m.depth) {
			continue
		}
		known[m.at] = append(known[m.at], m.depth)
		if depth, fits := w.behind(m); fits {
			for _, at := range w.onward(m.at) {
				open = append(open, moment{at, depth})
			}
		}
	}
	return known
}

// wrong tells what is wrong with an instruction that is reached with these depths.
func (w ways) wrong(at int, depths []int) api.Errno {
	i := w.list[at]
	if isJump(i) && !w.isThere(i.A) {
		return api.ErrJump
	}
	if _, fits := w.behind(moment{at, depths[0]}); !fits || len(depths) > 1 {
		return api.ErrStack
	}
	if len(w.onward(at)) < len(w.next(at)) {
		return api.ErrEnd
	}
	return api.OK
}

// depths gives the depth of each instruction, -1 of those that are not reached; or the least one that is wrong, and with what.
func (w ways) depths() ([]int, int, api.Errno) {
	if len(w.list) == 0 {
		return nil, 0, api.ErrEnd
	}
	all := slices.Repeat([]int{-1}, len(w.list))
	least, e := len(w.list), api.OK
	for at, depths := range w.reached() {
		all[at] = depths[0]
		if why := w.wrong(at, depths); why != api.OK && at < least {
			least, e = at, why
		}
	}
	if e != api.OK {
		return nil, least, e
	}
	return all, 0, api.OK
}
