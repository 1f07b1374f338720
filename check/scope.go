package check

import (
	"slices"

	"hindcast/api"
	"hindcast/syntax"
)

// around is what stands around a scope: a scope further out, and in the end a system or a function. Each call that takes a node gives up there, if what the node says may not be.
type around interface {
	kindOf(n *syntax.Node) int64
	fieldOf(kind int64, n *syntax.Node) int64
	calledBy(n *syntax.Node) int64
	readBy(n *syntax.Node) int64    // the kind whose field is read
	writtenBy(n *syntax.Node) int64 // the kind whose field is written
	mayAct(n *syntax.Node)          // commands, events and has are for systems
	mayAnswer(n *syntax.Node)       // return is for functions
	slotFor(n *syntax.Node) int64
	variable(name string) *syntax.Node // what declared it; nil, if it is not known
}

// slots are given out in the order of the source.
type slots struct {
	taken int64
}

func (s *slots) slotFor(n *syntax.Node) int64 {
	if s.taken == api.MaxLocals {
		fail(api.ErrLong, n)
	}
	s.taken++
	return s.taken - 1
}

// variable: beyond all scopes nobody is known.
func (s *slots) variable(string) *syntax.Node { return nil }

// system is what stands around the block of one.
type system struct {
	*program
	slots
	reads, writes []int
}

func (s *system) readBy(n *syntax.Node) int64 {
	kind := s.kindOf(n)
	if !slices.Contains(s.reads, int(kind)) && !slices.Contains(s.writes, int(kind)) {
		fail(api.ErrRead, n)
	}
	return kind
}

func (s *system) writtenBy(n *syntax.Node) int64 {
	kind := s.kindOf(n)
	if !slices.Contains(s.writes, int(kind)) {
		fail(api.ErrWrite, n)
	}
	return kind
}

func (s *system) mayAct(*syntax.Node) {}

func (s *system) mayAnswer(n *syntax.Node) { fail(api.ErrState, n) }

// function is what stands around the block of one: no kind is declared there, as any system may call it.
type function struct {
	*program
	slots
}

func (f *function) readBy(n *syntax.Node) int64 {
	fail(api.ErrRead, n)
	return 0
}

func (f *function) writtenBy(n *syntax.Node) int64 {
	fail(api.ErrState, n)
	return 0
}

func (f *function) mayAct(n *syntax.Node) { fail(api.ErrState, n) }

func (f *function) mayAnswer(*syntax.Node) {}

// scope is where names are declared: a block, or what a function's parameters are known in. What it does not say itself is said around it.
type scope struct {
	around
	names []*syntax.Node // what declares a variable, up to the statement that is looked at
}

func (s *scope) variable(name string) *syntax.Node {
	if n := find(s.names, name); n != nil {
		return n
	}
	return s.around.variable(name)
}

// slotOf gives the slot of the variable that a node's text names.
func (s *scope) slotOf(n *syntax.Node) int64 {
	declared := s.variable(n.Text)
	if declared == nil {
		fail(api.ErrName, n)
	}
	return declared.Num
}
