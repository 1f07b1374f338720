package check

import (
	"hindcast/api"
	"hindcast/syntax"
)

// block looks at a block within a scope, in one of its own, which ends with it.
func (s *scope) block(n *syntax.Node) {
	inner := &scope{around: s}
	for _, statement := range n.L {
		inner.statement(statement)
	}
}

func (s *scope) statement(n *syntax.Node) {
	switch n.Op {
	case syntax.Let:
		s.let(n)
	case syntax.Set:
		n.Num = s.slotOf(n)
		s.numbers(n.L)
	case syntax.SetField:
		n.Num = s.writtenBy(n)
		n.L[0].Num = s.fieldOf(n.Num, n.L[0])
		s.numbers(n.L[1:])
	case syntax.If:
		s.branch(n)
	case syntax.While:
		s.expression(n.L[0], truth)
		s.block(n.L[1])
	case syntax.Repeat:
		n.Num = s.slotFor(n)
		s.expression(n.L[0], number)
		s.block(n.L[1])
	case syntax.Emit:
		s.mayAct(n)
		s.numbers(n.L)
	case syntax.Spawn, syntax.Add:
		s.mayAct(n)
		s.parts(n.L)
	case syntax.Remove:
		s.mayAct(n)
		n.Num = s.kindOf(n)
	case syntax.Die, syntax.Stop:
		s.mayAct(n)
	case syntax.Return:
		s.mayAnswer(n)
		s.numbers(n.L)
	}
}

// let declares its variable last, as that is not known in its own expression.
func (s *scope) let(n *syntax.Node) {
	if s.variable(n.Text) != nil {
		fail(api.ErrTwice, n)
	}
	n.Num = s.slotFor(n)
	s.numbers(n.L)
	s.names = append(s.names, n)
}

func (s *scope) branch(n *syntax.Node) {
	s.expression(n.L[0], truth)
	for _, way := range n.L[1:] {
		if way.Op == syntax.Block {
			s.block(way)
		} else {
			s.statement(way) // an if behind else
		}
	}
}

func (s *scope) parts(list []*syntax.Node) {
	had := 0 // a set of kinds
	for _, part := range list {
		part.Num = s.kindOf(part)
		if had&(1<<part.Num) != 0 {
			fail(api.ErrTwice, part)
		}
		had |= 1 << part.Num
		s.values(part)
	}
}

func (s *scope) values(part *syntax.Node) {
	last := int64(-1)
	for _, value := range part.L {
		value.Num = s.fieldOf(part.Num, value)
		if value.Num <= last {
			fail(api.ErrTwice, value)
		}
		last = value.Num
		s.numbers(value.L)
	}
}
