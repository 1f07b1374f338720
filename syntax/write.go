package syntax

import (
	"strconv"
	"strings"
)

// writer writes trees that are well formed.
type writer struct {
	text strings.Builder
}

func (w *writer) put(texts ...string) {
	for _, text := range texts {
		w.text.WriteString(text)
	}
}

func (w *writer) member(n *Node) {
	if n.Op == System {
		w.put("system ", n.Text)
		for _, clause := range n.L[:4] {
			w.clause(clause)
		}
		w.block(n.L[4], 0)
	} else {
		w.put("func ", n.Text, "(")
		w.names(n.L[0].L)
		w.put(")")
		w.block(n.L[1], 0)
	}
	w.put("\n")
}

func (w *writer) clause(n *Node) {
	if len(n.L) > 0 {
		w.put(" ", n.Text, " ")
		w.names(n.L)
	}
}

func (w *writer) names(list []*Node) {
	for i, n := range list {
		w.comma(i)
		w.put(n.Text)
	}
}

// comma writes what stands ahead of an item of a list.
func (w *writer) comma(place int) {
	if place > 0 {
		w.put(", ")
	}
}

// block writes one, behind its head, up to its brace: what follows that may stand in the same line.
func (w *writer) block(n *Node, tabs int) {
	w.put(" {\n")
	for _, statement := range n.L {
		w.put(strings.Repeat("\t", tabs+1))
		w.statement(statement, tabs+1)
		w.put("\n")
	}
	w.put(strings.Repeat("\t", tabs), "}")
}

func (w *writer) statement(n *Node, tabs int) {
	switch n.Op {
	case If:
		w.branch(n, tabs)
	case While:
		w.loop("while ", n, tabs)
	case Repeat:
		w.loop("repeat ", n, tabs)
	default:
		w.simple(n)
		w.put(";")
	}
}

func (w *writer) loop(word string, n *Node, tabs int) {
	w.put(word)
	w.expression(n.L[0])
	w.block(n.L[1], tabs)
}

func (w *writer) branch(n *Node, tabs int) {
	w.loop("if ", n, tabs)
	if len(n.L) == 2 {
		return
	}
	w.put(" else")
	if n.L[2].Op == If {
		w.put(" ")
		w.branch(n.L[2], tabs)
	} else {
		w.block(n.L[2], tabs)
	}
}

// simple writes a statement that has no block.
func (w *writer) simple(n *Node) {
	switch n.Op {
	case Let:
		w.put("let ", n.Text, " = ")
		w.expression(n.L[0])
	case Set:
		w.put(n.Text, " = ")
		w.expression(n.L[0])
	case SetField:
		w.put(n.Text, ".", n.L[0].Text, " = ")
		w.expression(n.L[1])
	case Emit:
		w.put("emit ")
		w.expressions(n.L)
	case Spawn:
		w.put("spawn")
		w.parts(n.L)
	case Add:
		w.put("add")
		w.parts(n.L)
	case Remove:
		w.put("remove ", n.Text)
	case Die:
		w.put("die")
	case Stop:
		w.put("stop")
	case Return:
		w.put("return ")
		w.expression(n.L[0])
	}
}

// parts writes them behind a word, of which no blank stands if there are none.
func (w *writer) parts(list []*Node) {
	if len(list) > 0 {
		w.put(" ")
	}
	for i, n := range list {
		w.comma(i)
		w.part(n)
	}
}

func (w *writer) part(n *Node) {
	w.put(n.Text, "{")
	for i, value := range n.L {
		w.comma(i)
		w.put(value.Text, ": ")
		w.expression(value.L[0])
	}
	w.put("}")
}

func (w *writer) expressions(list []*Node) {
	for i, n := range list {
		w.comma(i)
		w.expression(n)
	}
}

func (w *writer) expression(n *Node) {
	switch n.Op {
	case Number:
		w.put(strconv.FormatInt(n.Num, 10))
	case Name, Word:
		w.put(n.Text)
	case Field:
		w.put(n.Text, ".", n.L[0].Text)
	case Binary:
		binds := binding(n.Text)
		w.operand(n.L[0], binds)
		w.put(" ", n.Text, " ")
		w.operand(n.L[1], binds+1)
	case Unary:
		w.put(n.Text)
		w.operand(n.L[0], bindsMost)
	case Cond:
		w.operand(n.L[0], bindsLeast)
		w.put(" ? ")
		w.expression(n.L[1])
		w.put(" : ")
		w.expression(n.L[2])
	case Call:
		w.put(n.Text, "(")
		w.expressions(n.L)
		w.put(")")
	case Has:
		w.put("has(", n.Text, ")")
	}
}

// operand writes an expression where it must bind as much as this: in parentheses, if it does not.
func (w *writer) operand(n *Node, least int) {
	if strength(n) >= least {
		w.expression(n)
		return
	}
	w.put("(")
	w.expression(n)
	w.put(")")
}

// strength is how much an expression binds.
func strength(n *Node) int {
	switch n.Op {
	case Cond:
		return bindsNothing
	case Binary:
		return binding(n.Text)
	}
	return bindsMost
}
