package syntax

import (
	"slices"

	"hindcast/api"
	"hindcast/lex"
)

// maxNodes is how many nodes a well formed tree has at most.
const maxNodes = 100000

// role is what a child must be.
type role int

const (
	noRole role = iota
	roleMember
	roleWith
	roleWithout
	roleReads
	roleWrites
	roleParams
	roleName
	roleBlock
	roleStatement
	roleElse
	rolePart
	roleValue
	roleExpression
)

// takes tells whether a node may stand where this is wanted, going by what it is alone.
func (r role) takes(n *Node) bool {
	switch r {
	case roleMember:
		return n.Op == System || n.Op == Func
	case roleWith:
		return n.Op == Clause && n.Text == "with"
	case roleWithout:
		return n.Op == Clause && n.Text == "without"
	case roleReads:
		return n.Op == Clause && n.Text == "reads"
	case roleWrites:
		return n.Op == Clause && n.Text == "writes"
	case roleParams:
		return n.Op == Clause && n.Text == "func"
	case roleName:
		return n.Op == Name
	case roleBlock:
		return n.Op == Block
	case roleStatement:
		return Let <= n.Op && n.Op <= Return
	case roleElse:
		return n.Op == Block || n.Op == If
	case rolePart:
		return n.Op == Part
	case roleValue:
		return n.Op == Value
	case roleExpression:
		return Number <= n.Op && n.Op <= Word
	}
	return false
}

// shape is what the children of a node must be: these, perhaps one more, and then any number of others.
type shape struct {
	first         []role
	perhaps, many role
}

func shapeOf(op int) shape {
	switch op {
	case Program:
		return shape{many: roleMember}
	case System:
		return shape{first: []role{roleWith, roleWithout, roleReads, roleWrites, roleBlock}}
	case Clause:
		return shape{many: roleName}
	case Func:
		return shape{first: []role{roleParams, roleBlock}}
	case Block:
		return shape{many: roleStatement}
	case SetField:
		return shape{first: []role{roleName, roleExpression}}
	case If:
		return shape{first: []role{roleExpression, roleBlock}, perhaps: roleElse}
	case While, Repeat:
		return shape{first: []role{roleExpression, roleBlock}}
	case Spawn:
		return shape{many: rolePart}
	case Add:
		return shape{first: []role{rolePart}}
	case Part:
		return shape{many: roleValue}
	case Field:
		return shape{first: []role{roleName}}
	case Let, Set, Return, Value, Unary:
		return shape{first: []role{roleExpression}}
	case Emit, Binary:
		return shape{first: []role{roleExpression, roleExpression}}
	case Cond:
		return shape{first: []role{roleExpression, roleExpression, roleExpression}}
	case Call:
		return shape{many: roleExpression}
	}
	return shape{}
}

// at tells what the child at a place must be.
func (s shape) at(place int) role {
	switch {
	case place < len(s.first):
		return s.first[place]
	case place == len(s.first) && s.perhaps != noRole:
		return s.perhaps
	}
	return s.many
}

// judge tells whether a tree is well formed.
type judge struct {
	words []string // that mean something
	nodes int      // how many it has looked at
}

func isWellFormed(n *Node) bool {
	j := &judge{words: lex.Words()}
	return n != nil && n.Op == Program && j.fits(n, 0)
}

// fits tells whether all is right from a node on, around which so many blocks stand. It counts the nodes as it goes, as one that stands in many places could keep it going for ever.
func (j *judge) fits(n *Node, blocks int) bool {
	j.nodes++
	if n.Op == Block {
		blocks++
	}
	if j.nodes > maxNodes || blocks > api.MaxNesting || !j.isText(n) || n.Op == Number && n.Num < 0 {
		return false
	}
	s := shapeOf(n.Op)
	if len(n.L) < len(s.first) {
		return false
	}
	for i, child := range n.L {
		if child == nil || !s.at(i).takes(child) || !j.fits(child, blocks) {
			return false
		}
	}
	return true
}

// isText tells whether a node has a text that it may have.
func (j *judge) isText(n *Node) bool {
	switch n.Op {
	case System, Func, Let, Set, SetField, Remove, Part, Value, Name, Field, Has:
		return j.isName(n.Text)
	case Clause:
		return true // its role has told
	case Binary:
		return binding(n.Text) != bindsNothing
	case Unary:
		return n.Text == "-" || n.Text == "!"
	case Call:
		return isBuiltIn(n.Text) || j.isName(n.Text)
	case Word:
		return n.Text == "tick" || n.Text == "me"
	}
	return n.Text == ""
}

func (j *judge) isName(text string) bool {
	tokens, err := lex.Lex(text)
	if err != nil || tokens[0].Kind != api.TokWord || tokens[0].Text != text {
		return false
	}
	return !slices.Contains(j.words, text)
}
