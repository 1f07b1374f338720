package check

import (
	"slices"

	"hindcast/api"
	"hindcast/syntax"
)

// program is what stands around all systems and functions.
type program struct {
	kinds []api.Kind
	funcs []*syntax.Node
}

// mark puts numbers into a tree that has none, and tells the first fault, behind which it goes no further.
func mark(tree *syntax.Node, kinds []api.Kind) (fault *api.Fault) {
	defer func() {
		if what := recover(); what != nil {
			fault = what.(*api.Fault)
		}
	}()
	p := &program{kinds: kinds, funcs: only(tree.L, syntax.Func)}
	p.heads(tree)
	p.blocks(tree)
	p.rounds()
	return nil
}

// fail gives up at the place of a node.
func fail(reason api.Errno, n *syntax.Node) { panic(&api.Fault{At: n.At, Err: reason}) }

func (p *program) heads(tree *syntax.Node) {
	for i, n := range tree.L {
		if find(only(tree.L[:i], n.Op), n.Text) != nil {
			fail(api.ErrTwice, n)
		}
		if n.Op == syntax.System {
			p.declare(clausesOf(n))
		} else {
			giveSlots(paramsOf(n))
		}
	}
}

// declare looks at a system's clauses together, as no kind may stand in two of them.
func (p *program) declare(clauses []*syntax.Node) {
	declared := 0
	for _, clause := range clauses {
		for _, name := range clause.L {
			name.Num = p.kindOf(name)
			if declared&(1<<name.Num) != 0 {
				fail(api.ErrTwice, name)
			}
			declared |= 1 << name.Num
		}
	}
}

// giveSlots looks at a function's parameters.
func giveSlots(names []*syntax.Node) {
	for i, name := range names {
		if find(names[:i], name.Text) != nil {
			fail(api.ErrTwice, name)
		}
		name.Num = int64(i)
	}
}

// find gives the node of a text, or nil.
func find(list []*syntax.Node, text string) *syntax.Node {
	for _, n := range list {
		if n.Text == text {
			return n
		}
	}
	return nil
}

func (p *program) blocks(tree *syntax.Node) {
	for _, n := range tree.L {
		if n.Op == syntax.System {
			p.systemBlock(n)
		} else {
			p.functionBlock(n)
		}
	}
}

func (p *program) systemBlock(n *syntax.Node) {
	s := &system{program: p, reads: kindsIn(n.L[readsAt]), writes: kindsIn(n.L[writesAt])}
	outermost := &scope{around: s}
	outermost.block(blockOf(n))
	n.Num = s.taken
}

func (p *program) functionBlock(n *syntax.Node) {
	f := &function{program: p, slots: slots{taken: int64(len(paramsOf(n)))}}
	outermost := &scope{around: f, names: paramsOf(n)}
	outermost.block(blockOf(n))
	n.Num = f.taken
}

// kindOf gives the kind that a node's text names.
func (p *program) kindOf(n *syntax.Node) int64 {
	at := slices.IndexFunc(p.kinds, func(k api.Kind) bool { return k.Name == n.Text })
	if at < 0 {
		fail(api.ErrName, n)
	}
	return int64(at) + 1
}

// fieldOf gives the field of a kind that a node's text names.
func (p *program) fieldOf(kind int64, n *syntax.Node) int64 {
	at := slices.Index(p.kinds[kind-1].Fields, n.Text)
	if at < 0 {
		fail(api.ErrField, n)
	}
	return int64(at)
}

// calledBy gives the number of what a Call names, if it has as many arguments as that asks for; what is always known has none.
func (p *program) calledBy(n *syntax.Node) int64 {
	params, number := builtIn(n.Text), 0
	if params == 0 {
		number = slices.IndexFunc(p.funcs, func(f *syntax.Node) bool { return f.Text == n.Text })
		if number < 0 {
			fail(api.ErrName, n)
		}
		params = len(paramsOf(p.funcs[number]))
	}
	if len(n.L) != params {
		fail(api.ErrCall, n)
	}
	return int64(number)
}

// builtIn tells how many parameters a function has that is always known; of any other one 0.
func builtIn(name string) int {
	switch name {
	case "rand", "abs":
		return 1
	case "input", "min", "max":
		return 2
	}
	return 0
}

// rounds looks for functions that reach themselves by calls, when all calls are known to be right.
func (p *program) rounds() {
	reached := make([]int, len(p.funcs)) // sets of functions
	for i, f := range p.funcs {
		reached[i] = callsIn(f)
	}
	for through := range reached {
		for i := range reached {
			if reached[i]>>through&1 == 1 {
				reached[i] |= reached[through]
			}
		}
	}
	for i, f := range p.funcs {
		if reached[i]>>i&1 == 1 {
			fail(api.ErrLoop, f)
		}
	}
}

// callsIn gives the set of the program's functions that are called in a node.
func callsIn(n *syntax.Node) int {
	calls := 0
	if n.Op == syntax.Call && builtIn(n.Text) == 0 {
		calls = 1 << n.Num
	}
	for _, child := range n.L {
		calls |= callsIn(child)
	}
	return calls
}
