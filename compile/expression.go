package compile

import (
	"hindcast/code"
	"hindcast/syntax"
)

// expressions lays down each, behind the one ahead.
func (r *routine) expressions(list ...*syntax.Node) {
	for _, n := range list {
		r.expression(n)
	}
}

func (r *routine) expression(n *syntax.Node) {
	switch n.Op {
	case syntax.Number:
		r.lay(with(code.Push, n.Num))
	case syntax.Name:
		r.lay(with(code.Load, n.Num))
	case syntax.Field:
		r.lay(with(code.Field, ofKind(n.Num, n.L[0].Num)))
	case syntax.Binary:
		r.binary(n)
	case syntax.Unary:
		r.expressions(n.L...)
		r.lay(plain(unaryOp(n.Text)))
	case syntax.Cond:
		r.choose(n.L[0], func() { r.expression(n.L[1]) }, func() { r.expression(n.L[2]) })
	case syntax.Call:
		r.call(n)
	case syntax.Has:
		r.lay(with(code.Has, n.Num))
	case syntax.Word:
		r.lay(plain(code.Number(n.Text)))
	}
}

func (r *routine) binary(n *syntax.Node) {
	left, right := n.L[0], func() { r.expression(n.L[1]) }
	switch n.Text {
	case "&&":
		r.choose(left, right, func() { r.lay(with(code.Push, 0)) })
	case "||":
		r.choose(left, func() { r.lay(with(code.Push, 1)) }, right)
	default:
		r.expressions(n.L...)
		r.lay(plain(binaryOp(n.Text)))
	}
}

// choose lays down two ways, of which just one is gone: the first, if what is asked is true.
func (r *routine) choose(asked *syntax.Node, first func(), second func()) {
	r.expression(asked)
	past := r.leap(code.Zero)
	first()
	end := r.leap(code.Jump)
	r.land(past)
	second()
	r.land(end)
}

// call tells the built-in ones by their words alone: a function may well be named like an instruction.
func (r *routine) call(n *syntax.Node) {
	r.expressions(n.L...)
	switch n.Text {
	case "rand", "input", "min", "max", "abs":
		r.lay(plain(code.Number(n.Text)))
	default:
		r.lay(with(code.Call, n.Num))
	}
}

func unaryOp(sign string) int {
	if sign == "-" {
		return code.Neg
	}
	return code.Not
}

// signed is an op and the sign that stands for it in a source.
type signed struct {
	sign string
	op   int
}

var binaries = [...]signed{
	{"+", code.Add}, {"-", code.Sub}, {"*", code.Mul}, {"/", code.Div}, {"%", code.Rem},
	{"==", code.Eq}, {"!=", code.Ne}, {"<", code.Lt}, {"<=", code.Le}, {">", code.Gt}, {">=", code.Ge},
}

func binaryOp(sign string) int {
	for _, row := range binaries {
		if row.sign == sign {
			return row.op
		}
	}
	return 0
}
