package syntax

import (
	"math"
	"slices"

	"hindcast/api"
)

// reader goes through tokens from the left, and gives up by a panic at the first one that may not stand where it stands. As it never reads a token ahead of the one it is at, that is the first one of all.
type reader struct {
	tokens                     []api.Token // those that it is not past; the end stays
	words                      []string    // that mean something
	systems, funcs, statements int         // how many have begun
	depth                      int
}

// read reads all tokens as a program, and tells where that is wrong, if it is.
func (r *reader) read() (n *Node, fault *api.Fault) {
	defer func() {
		if what := recover(); what != nil {
			n, fault = nil, what.(*api.Fault)
		}
	}()
	return r.program(), nil
}

// fail gives up at the token that stands here.
func (r *reader) fail(reason api.Errno) { panic(&api.Fault{At: r.now().At, Err: reason}) }

func (r *reader) now() api.Token { return r.tokens[0] }

func (r *reader) isAt(text string) bool { return r.now().Text == text }

// next goes past a token, which is not the end.
func (r *reader) next() api.Token {
	token := r.now()
	r.tokens = r.tokens[1:]
	return token
}

// take goes past a token that must be this one.
func (r *reader) take(text string) api.Token {
	if !r.isAt(text) {
		r.fail(api.ErrSyntax)
	}
	return r.next()
}

// takeIf goes past a token if it is this one, and tells whether it was.
func (r *reader) takeIf(text string) bool {
	if !r.isAt(text) {
		return false
	}
	r.next()
	return true
}

// open goes past a sign that must be this one, and behind which it is one deeper.
func (r *reader) open(sign string) {
	if !r.isAt(sign) {
		r.fail(api.ErrSyntax)
	}
	if r.depth == api.MaxNesting {
		r.fail(api.ErrDeep)
	}
	r.depth++
	r.next()
}

// leave tells that what open began is over.
func (r *reader) leave() { r.depth-- }

// count counts what begins with the token that stands here.
func (r *reader) count(sum *int, most int) {
	if *sum == most {
		r.fail(api.ErrLong)
	}
	*sum++
}

func (r *reader) isAtName() bool {
	return r.now().Kind == api.TokWord && !slices.Contains(r.words, r.now().Text)
}

func (r *reader) needName() {
	if !r.isAtName() {
		r.fail(api.ErrSyntax)
	}
}

func (r *reader) name() string {
	r.needName()
	return r.next().Text
}

// node begins one whose place is the token that stands here.
func (r *reader) node(op int) *Node { return &Node{Op: op, At: r.now().At} }

func (r *reader) nameNode() *Node {
	n := r.node(Name)
	n.Text = r.name()
	return n
}

func (r *reader) program() *Node {
	n := &Node{Op: Program}
	for r.now().Kind != api.TokEnd {
		n.L = append(n.L, r.member())
	}
	return n
}

func (r *reader) member() *Node {
	if r.isAt("system") {
		return r.system()
	}
	return r.function()
}

func (r *reader) system() *Node {
	r.count(&r.systems, api.MaxSystems)
	n := r.node(System)
	r.take("system")
	n.Text = r.name()
	for _, word := range [...]string{"with", "without", "reads", "writes"} {
		n.L = append(n.L, r.clause(word))
	}
	block := r.block()
	for _, clause := range n.L {
		if len(clause.L) == 0 {
			clause.At = block.At
		}
	}
	n.L = append(n.L, block)
	return n
}

// clause reads one, or gives an empty one without a place, where it is missing.
func (r *reader) clause(word string) *Node {
	n := &Node{Op: Clause, Text: word}
	if r.isAt(word) {
		n.At = r.next().At
		n.L = r.names(math.MaxInt)
	}
	return n
}

func (r *reader) function() *Node {
	if !r.isAt("func") {
		r.fail(api.ErrSyntax)
	}
	r.count(&r.funcs, api.MaxFuncs)
	n := r.node(Func)
	r.take("func")
	n.Text = r.name()
	n.L = append(n.L, r.parameters(), r.block())
	return n
}

func (r *reader) parameters() *Node {
	n := r.node(Clause)
	n.Text = "func"
	r.take("(")
	if !r.isAt(")") {
		n.L = r.names(api.MaxParams)
	}
	r.take(")")
	return n
}

// names reads one at least, and no more than most.
func (r *reader) names(most int) []*Node {
	var list []*Node
	for sum := 0; ; {
		r.needName()
		r.count(&sum, most)
		list = append(list, r.nameNode())
		if !r.takeIf(",") {
			return list
		}
	}
}

// list reads items with commas between them, or nothing, if what ends the list stands here.
func (r *reader) list(end string, item func(*reader) *Node) []*Node {
	if r.isAt(end) {
		return nil
	}
	list := []*Node{item(r)}
	for r.takeIf(",") {
		list = append(list, item(r))
	}
	return list
}

func (r *reader) block() *Node {
	n := r.node(Block)
	r.open("{")
	for !r.takeIf("}") {
		n.L = append(n.L, r.statement())
	}
	r.leave()
	return n
}
