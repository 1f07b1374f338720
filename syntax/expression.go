package syntax

import (
	"strconv"

	"hindcast/api"
)

func (r *reader) cond() *Node {
	first := r.binary(bindsLeast)
	if !r.isAt("?") {
		return first
	}
	n := r.node(Cond)
	r.open("?")
	second := r.cond()
	r.take(":")
	n.L = append(n.L, first, second, r.cond())
	r.leave()
	return n
}

// binary reads operands, with signs between them that bind as much as this, or more. To the right of a sign stands only what binds more than it: so signs that bind alike stand to the left.
func (r *reader) binary(least int) *Node {
	left := r.unary()
	for {
		binds := binding(r.now().Text)
		if binds < least {
			return left
		}
		n := r.node(Binary)
		n.Text = r.next().Text
		n.L = append(n.L, left, r.binary(binds+1))
		left = n
	}
}

func (r *reader) unary() *Node {
	if !r.isAt("-") && !r.isAt("!") {
		return r.primary()
	}
	n := r.node(Unary)
	n.Text = r.now().Text
	r.open(n.Text)
	n.L = append(n.L, r.unary())
	r.leave()
	return n
}

func (r *reader) primary() *Node {
	switch {
	case r.isAt("("):
		return r.parentheses()
	case r.now().Kind == api.TokNumber:
		return r.number()
	case r.isAt("tick") || r.isAt("me"):
		n := r.node(Word)
		n.Text = r.next().Text
		return n
	case r.isAt("has"):
		return r.has()
	case isBuiltIn(r.now().Text):
		n := r.node(Call)
		n.Text = r.next().Text
		n.L = r.arguments()
		return n
	}
	return r.named()
}

func (r *reader) parentheses() *Node {
	r.open("(")
	n := r.cond()
	r.take(")")
	r.leave()
	return n
}

func (r *reader) number() *Node {
	n := r.node(Number)
	// A token of this kind is a number that goes in 64 bits.
	n.Num, _ = strconv.ParseInt(r.next().Text, 10, 64)
	return n
}

// has reads a question for a kind; its parentheses are not round a cond, and make nothing deeper.
func (r *reader) has() *Node {
	n := r.node(Has)
	r.take("has")
	r.take("(")
	n.Text = r.name()
	r.take(")")
	return n
}

// named reads what begins with a name, which shows behind that.
func (r *reader) named() *Node {
	n := r.nameNode()
	switch {
	case r.isAt("("):
		n.Op = Call
		n.L = r.arguments()
	case r.takeIf("."):
		n.Op = Field
		n.L = append(n.L, r.nameNode())
	}
	return n
}

func (r *reader) arguments() []*Node {
	r.open("(")
	list := r.list(")", (*reader).cond)
	r.take(")")
	r.leave()
	return list
}
