package check

import (
	"hindcast/api"
	"hindcast/syntax"
)

// valueType is one of the two types that expressions have.
type valueType int

const (
	number valueType = iota
	truth
)

// typeOf gives the type of an expression; a Cond is of the type that is wanted.
func typeOf(n *syntax.Node, wanted valueType) valueType {
	switch n.Op {
	case syntax.Binary, syntax.Unary:
		return resultType(n.Text)
	case syntax.Has:
		return truth
	case syntax.Cond:
		return wanted
	}
	return number
}

// resultType gives the type of what a sign makes.
func resultType(sign string) valueType {
	switch sign {
	case "==", "!=", "<", "<=", ">", ">=", "&&", "||", "!":
		return truth
	}
	return number
}

// operandType gives the type of what a sign takes.
func operandType(sign string) valueType {
	switch sign {
	case "&&", "||", "!":
		return truth
	}
	return number
}

func (s *scope) expression(n *syntax.Node, wanted valueType) {
	if typeOf(n, wanted) != wanted {
		fail(api.ErrType, n)
	}
	switch n.Op {
	case syntax.Name:
		n.Num = s.slotOf(n)
	case syntax.Field:
		n.Num = s.readBy(n)
		n.L[0].Num = s.fieldOf(n.Num, n.L[0])
	case syntax.Binary, syntax.Unary:
		s.expressions(n.L, operandType(n.Text))
	case syntax.Cond:
		s.expression(n.L[0], truth)
		s.expressions(n.L[1:], wanted)
	case syntax.Call:
		n.Num = s.calledBy(n)
		s.numbers(n.L)
	case syntax.Has:
		s.mayAct(n)
		n.Num = s.kindOf(n)
	}
}

func (s *scope) expressions(list []*syntax.Node, wanted valueType) {
	for _, n := range list {
		s.expression(n, wanted)
	}
}

func (s *scope) numbers(list []*syntax.Node) { s.expressions(list, number) }
