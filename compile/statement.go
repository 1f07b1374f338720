package compile

import (
	"slices"

	"hindcast/api"
	"hindcast/code"
	"hindcast/syntax"
)

func (r *routine) block(n *syntax.Node) {
	for _, statement := range n.L {
		r.statement(statement)
	}
}

func (r *routine) statement(n *syntax.Node) {
	r.lay(plain(code.Step))
	switch n.Op {
	case syntax.Let, syntax.Set:
		r.expressions(n.L...)
		r.lay(with(code.Store, n.Num))
	case syntax.SetField:
		r.expressions(n.L[1])
		r.lay(with(code.Put, ofKind(n.Num, n.L[0].Num)))
	case syntax.Return:
		r.expressions(n.L...)
		r.lay(plain(code.Ret))
	case syntax.If:
		r.branch(n)
	case syntax.While:
		r.loop(func() { r.expressions(n.L[0]) }, func() { r.block(n.L[1]) })
	case syntax.Repeat:
		r.repeat(n)
	case syntax.Stop:
		r.lay(plain(code.Stop))
	default:
		r.tell(n)
	}
}

func (r *routine) branch(n *syntax.Node) {
	if len(n.L) == 3 {
		r.choose(n.L[0], func() { r.block(n.L[1]) }, func() { r.otherwise(n.L[2]) })
		return
	}
	r.expressions(n.L[0])
	past := r.leap(code.Zero)
	r.block(n.L[1])
	r.land(past)
}

func (r *routine) otherwise(n *syntax.Node) {
	if n.Op == syntax.If {
		r.statement(n)
	} else {
		r.block(n)
	}
}

// loop lays down turns that are done as long as what is asked is true.
func (r *routine) loop(asked func(), turn func()) {
	top := r.here()
	asked()
	end := r.leap(code.Zero)
	r.lay(plain(code.Step))
	turn()
	r.lay(with(code.Jump, top))
	r.land(end)
}

// repeat counts down in a variable of its own, which no name means.
func (r *routine) repeat(n *syntax.Node) {
	store, load := with(code.Store, n.Num), with(code.Load, n.Num)
	r.expressions(n.L[0])
	r.lay(store)
	r.loop(func() {
		r.lay(load, with(code.Push, 0), plain(code.Gt))
	}, func() {
		r.lay(load, with(code.Push, 1), plain(code.Sub), store)
		r.block(n.L[1])
	})
}

// tell lays down the statements that ask for something, or tell it.
func (r *routine) tell(n *syntax.Node) {
	switch n.Op {
	case syntax.Emit:
		r.expressions(n.L...)
		r.lay(plain(code.Emit))
	case syntax.Spawn:
		r.expressions(allValues(n.L, r.kinds)...)
		for _, part := range slices.Backward(n.L) { // the last part's values are the top
			r.lay(r.ofPart(code.Part, part))
		}
		r.lay(plain(code.Spawn))
	case syntax.Add:
		r.expressions(allValues(n.L, r.kinds)...)
		r.lay(r.ofPart(code.Give, n.L[0]))
	case syntax.Remove:
		r.lay(with(code.Take, n.Num))
	case syntax.Die:
		r.lay(plain(code.Die))
	}
}

// ofPart is an instruction that takes the values of a part.
func (r *routine) ofPart(op int, part *syntax.Node) api.Instr {
	return with(op, ofKind(part.Num, int64(len(r.kinds[part.Num-1].Fields))))
}
