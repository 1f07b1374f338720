package compile

import (
	"hindcast/api"
	"hindcast/syntax"
)

// blockHeight is how many numbers its statements put on the stack at most. What a repeat and a function's end put there of their own is left out: it is far below what is allowed.
func blockHeight(block *syntax.Node, kinds []api.Kind) int {
	most := 0
	for _, n := range block.L {
		most = max(most, statementHeight(n, kinds))
	}
	return most
}

func statementHeight(n *syntax.Node, kinds []api.Kind) int {
	switch n.Op {
	case syntax.Let, syntax.Set, syntax.Return:
		return height(n.L[0])
	case syntax.SetField:
		return height(n.L[1])
	case syntax.If, syntax.While, syntax.Repeat:
		return max(height(n.L[0]), waysHeight(n.L[1:], kinds))
	case syntax.Emit:
		return rowHeight(n.L)
	case syntax.Spawn, syntax.Add:
		return rowHeight(allValues(n.L, kinds))
	}
	return 0
}

// waysHeight is that of what a statement may go on with: a block, and an else, which is a block or an if.
func waysHeight(ways []*syntax.Node, kinds []api.Kind) int {
	most := 0
	for _, n := range ways {
		if n.Op == syntax.Block {
			most = max(most, blockHeight(n, kinds))
		} else {
			most = max(most, statementHeight(n, kinds))
		}
	}
	return most
}

func height(n *syntax.Node) int {
	switch n.Op {
	case syntax.Binary:
		if n.Text == "&&" || n.Text == "||" {
			return eitherHeight(n.L)
		}
		return rowHeight(n.L)
	case syntax.Unary, syntax.Cond:
		return eitherHeight(n.L)
	case syntax.Call:
		return max(1, rowHeight(n.L))
	}
	return 1
}

// rowHeight is that of expressions each of which finds the values of those ahead on the stack.
func rowHeight(list []*syntax.Node) int {
	most := 0
	for ahead, n := range list {
		most = max(most, ahead+height(n))
	}
	return most
}

// eitherHeight is that of expressions none of which finds the value of another one on the stack.
func eitherHeight(list []*syntax.Node) int {
	most := 0
	for _, n := range list {
		most = max(most, height(n))
	}
	return most
}
