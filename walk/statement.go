package walk

import (
	"cmp"
	"slices"

	"hindcast/api"
	"hindcast/syntax"
)

// routine is a system, or a call of a function, that is being done.
type routine struct {
	*run
	variables []int64
	answer    int64 // what a return gave
}

// do does the block of a system or function, and gives what it answers.
func (r *run) do(member *syntax.Node, arguments []int64) int64 {
	own := &routine{run: r, variables: make([]int64, member.Num)}
	copy(own.variables, arguments)
	own.block(member.L[len(member.L)-1])
	return own.answer
}

// block does statements, and tells whether the routine goes on behind them.
func (r *routine) block(n *syntax.Node) bool {
	for _, statement := range n.L {
		if !r.statement(statement) {
			return false
		}
	}
	return true
}

// statement does one, and tells whether the routine goes on behind it.
func (r *routine) statement(n *syntax.Node) bool {
	r.step()
	switch n.Op {
	case syntax.If:
		return r.branch(n)
	case syntax.While:
		return r.loop(r.turnsWhile(n.L[0]), n.L[1])
	case syntax.Repeat:
		return r.loop(r.turnsUpTo(n.L[0]), n.L[1])
	case syntax.Stop:
		return false
	case syntax.Return:
		r.answer = r.value(n.L[0])
		return false
	case syntax.Let, syntax.Set:
		r.variables[n.Num] = r.value(n.L[0])
	case syntax.SetField:
		value := r.value(n.L[1])
		r.valuesWith(n)[n.L[0].Num] = value
	default:
		r.tell(n)
	}
	return true
}

func (r *routine) branch(n *syntax.Node) bool {
	if r.truth(n.L[0]) {
		return r.block(n.L[1])
	}
	if len(n.L) == 2 {
		return true
	}
	if way := n.L[2]; way.Op == syntax.If {
		return r.statement(way)
	}
	return r.block(n.L[2])
}

// turns are those of a loop: they go on as long as the block does.
type turns func(turn func() bool)

func (r *routine) loop(all turns, block *syntax.Node) bool {
	for range all {
		r.step()
		if !r.block(block) {
			return false
		}
	}
	return true
}

// turnsWhile asks anew ahead of each turn: what is asked hangs on what the turn ahead has done.
func (r *routine) turnsWhile(asked *syntax.Node) turns {
	return func(turn func() bool) {
		for r.truth(asked) && turn() {
		}
	}
}

// turnsUpTo asks but once, ahead of all turns.
func (r *routine) turnsUpTo(count *syntax.Node) turns {
	return func(turn func() bool) {
		for range r.value(count) {
			if !turn() {
				return
			}
		}
	}
}

// tell does the statements that ask for something, or tell it.
func (r *routine) tell(n *syntax.Node) {
	switch n.Op {
	case syntax.Emit:
		both := r.values(n.L)
		r.tellEvent(both[0], both[1])
	case syntax.Spawn:
		r.tellCommand(api.Command{Op: api.OpSpawn, Parts: r.newParts(n.L)})
	case syntax.Add:
		part := r.newPart(n.L[0])
		r.tellCommand(api.Command{Op: api.OpAdd, E: r.who, Kind: part.Kind, Values: part.Values})
	case syntax.Remove:
		r.tellCommand(api.Command{Op: api.OpRemove, E: r.who, Kind: int(n.Num)})
	case syntax.Die:
		r.tellCommand(api.Command{Op: api.OpDespawn, E: r.who})
	}
}

// newParts takes the values in the order of the source, ahead of putting the parts in order.
func (r *routine) newParts(list []*syntax.Node) []api.Part {
	var parts []api.Part
	for _, n := range list {
		parts = append(parts, r.newPart(n))
	}
	slices.SortFunc(parts, func(a, b api.Part) int { return cmp.Compare(a.Kind, b.Kind) })
	return parts
}

func (r *routine) newPart(n *syntax.Node) api.Part {
	part := api.Part{Kind: int(n.Num), Values: make([]int64, len(r.kinds[n.Num-1].Fields))}
	for _, given := range n.L {
		part.Values[given.Num] = r.value(given.L[0])
	}
	return part
}
