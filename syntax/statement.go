package syntax

import "hindcast/api"

// way is how a statement is read that begins with a word.
type way struct {
	word string
	op   int
	read func(*reader, *Node) // what follows the word
}

// wayOf finds the way of a word; without one that of statements that begin with a name.
func wayOf(word string) way {
	for _, w := range [...]way{
		{word: "let", op: Let, read: (*reader).let},
		{word: "if", op: If, read: (*reader).branch},
		{word: "while", op: While, read: (*reader).loop},
		{word: "repeat", op: Repeat, read: (*reader).loop},
		{word: "emit", op: Emit, read: (*reader).emit},
		{word: "spawn", op: Spawn, read: (*reader).spawn},
		{word: "add", op: Add, read: (*reader).add},
		{word: "remove", op: Remove, read: (*reader).remove},
		{word: "die", op: Die, read: (*reader).end},
		{word: "stop", op: Stop, read: (*reader).end},
		{word: "return", op: Return, read: (*reader).tail},
	} {
		if w.word == word {
			return w
		}
	}
	return way{op: Set, read: (*reader).set}
}

func (r *reader) statement() *Node {
	w := wayOf(r.now().Text)
	if w.word == "" {
		r.needName()
	}
	r.count(&r.statements, api.MaxStmts)
	n := r.node(w.op)
	if w.word != "" {
		r.take(w.word)
	}
	w.read(r, n)
	return n
}

func (r *reader) let(n *Node) {
	n.Text = r.name()
	r.take("=")
	r.tail(n)
}

// set reads a statement from its name on; which of the two it is shows behind that.
func (r *reader) set(n *Node) {
	n.Text = r.name()
	if r.takeIf(".") {
		n.Op = SetField
		n.L = append(n.L, r.nameNode())
	}
	r.take("=")
	r.tail(n)
}

func (r *reader) branch(n *Node) {
	r.loop(n) // up to an else it is read as a loop is
	if !r.takeIf("else") {
		return
	}
	if r.isAt("if") {
		n.L = append(n.L, r.statement())
	} else {
		n.L = append(n.L, r.block())
	}
}

func (r *reader) loop(n *Node) { n.L = append(n.L, r.cond(), r.block()) }

func (r *reader) emit(n *Node) {
	n.L = append(n.L, r.cond())
	r.take(",")
	r.tail(n)
}

func (r *reader) spawn(n *Node) {
	n.L = r.list(";", (*reader).part)
	r.end(n)
}

func (r *reader) add(n *Node) {
	n.L = append(n.L, r.part())
	r.end(n)
}

func (r *reader) remove(n *Node) {
	n.Text = r.name()
	r.end(n)
}

// tail reads the last expression of a statement, and its end.
func (r *reader) tail(n *Node) {
	n.L = append(n.L, r.cond())
	r.end(n)
}

// end reads the end of a statement, of whatever kind it is.
func (r *reader) end(*Node) { r.take(";") }

func (r *reader) part() *Node {
	n := r.node(Part)
	n.Text = r.name()
	r.open("{")
	n.L = r.list("}", (*reader).field)
	r.take("}")
	r.leave()
	return n
}

// field reads a field of a part, with its value.
func (r *reader) field() *Node {
	n := r.node(Value)
	n.Text = r.name()
	r.take(":")
	n.L = append(n.L, r.cond())
	return n
}
