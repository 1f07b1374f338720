package syntax_test

import (
	"fmt"
	"regexp"
	"slices"
	"strings"

	"hindcast/lex"
	"hindcast/syntax"
)

// letter stands for an op: n for a Name, e for other expressions, i for an If, t for other statements.
func letter(n *syntax.Node) string {
	if n == nil {
		return "0"
	}
	switch n.Op {
	case syntax.Program:
		return "P"
	case syntax.System:
		return "s"
	case syntax.Clause:
		return "c"
	case syntax.Func:
		return "f"
	case syntax.Block:
		return "b"
	case syntax.If:
		return "i"
	case syntax.Let, syntax.Set, syntax.SetField, syntax.While, syntax.Repeat, syntax.Emit, syntax.Spawn, syntax.Add, syntax.Remove, syntax.Die, syntax.Stop, syntax.Return:
		return "t"
	case syntax.Part:
		return "p"
	case syntax.Value:
		return "v"
	case syntax.Name:
		return "n"
	case syntax.Number, syntax.Field, syntax.Binary, syntax.Unary, syntax.Cond, syntax.Call, syntax.Has, syntax.Word:
		return "e"
	}
	return "?"
}

const nameForm = `[A-Za-z][A-Za-z0-9_]{0,15}`

// table is the chapter's: of each op what its text and its children's letters are. A text that is a name is no word that means something, but those here.
var table = map[int]struct{ text, children string }{
	syntax.Program: {``, `[sf]*`}, syntax.System: {nameForm, `ccccb`}, syntax.Clause: {`with|without|reads|writes|func`, `n*`}, syntax.Func: {nameForm, `cb`}, syntax.Block: {``, `[it]*`},
	syntax.Let: {nameForm, `[ne]`}, syntax.Set: {nameForm, `[ne]`}, syntax.SetField: {nameForm, `n[ne]`}, syntax.If: {``, `[ne]b[bi]?`}, syntax.While: {``, `[ne]b`}, syntax.Repeat: {``, `[ne]b`},
	syntax.Emit: {``, `[ne][ne]`}, syntax.Spawn: {``, `p*`}, syntax.Add: {``, `p`}, syntax.Remove: {nameForm, ``}, syntax.Die: {``, ``}, syntax.Stop: {``, ``}, syntax.Return: {``, `[ne]`},
	syntax.Part: {nameForm, `v*`}, syntax.Value: {nameForm, `[ne]`}, syntax.Number: {``, ``}, syntax.Name: {nameForm, ``}, syntax.Field: {nameForm, `n`},
	syntax.Binary: {`[-+*/%<>]|[=!<>]=|&&|\|\|`, `[ne][ne]`}, syntax.Unary: {`[-!]`, `[ne]`}, syntax.Cond: {``, `[ne][ne][ne]`}, syntax.Call: {nameForm, `[ne]*`}, syntax.Has: {nameForm, ``}, syntax.Word: {`tick|me`, ``},
}

var forms = map[string]*regexp.Regexp{}

// isWhole tells whether all of a text is as a form says.
func isWhole(form, text string) bool {
	if forms[form] == nil {
		forms[form] = regexp.MustCompile(`\A(?:` + form + `)\z`)
	}
	return forms[form].MatchString(text)
}

// isRight tells whether a tree is well formed, by the chapter's words.
func isRight(n *syntax.Node) bool {
	nodes := 0
	return n != nil && n.Op == syntax.Program && isRightWithin(n, 0, &nodes)
}

func isRightWithin(n *syntax.Node, blocks int, nodes *int) bool {
	if n == nil {
		return false
	}
	if n.Op == syntax.Block {
		blocks++
	}
	*nodes++
	row, ok := table[n.Op]
	if !ok || *nodes > 100000 || blocks > 20 || !isWhole(row.text, n.Text) {
		return false
	}
	if row.text == nameForm && slices.Contains(lex.Words(), n.Text) && !(n.Op == syntax.Call && isWhole(`rand|input|min|max|abs`, n.Text)) {
		return false
	}
	if n.Op == syntax.Number && n.Num < 0 {
		return false
	}
	letters, clauses := "", ""
	for _, child := range n.L[:min(len(n.L), 100000)] {
		letters += letter(child)
		if letter(child) == "c" {
			clauses += child.Text + " "
		}
	}
	if !isWhole(row.children, letters) || n.Op == syntax.System && clauses != "with without reads writes " || n.Op == syntax.Func && clauses != "func " {
		return false
	}
	for _, child := range n.L {
		if !isRightWithin(child, blocks, nodes) {
			return false
		}
	}
	return true
}

// written is the source of a tree that is well formed, by the chapter's words.
func written(n *syntax.Node) string {
	s := ""
	for _, x := range n.L {
		if x.Op == syntax.Func {
			s += "func " + x.Text + "(" + texts(x.L[0].L) + ") {\n"
		} else {
			s += "system " + x.Text
			for _, clause := range x.L[:4] {
				if len(clause.L) > 0 {
					s += " " + clause.Text + " " + texts(clause.L)
				}
			}
			s += " {\n"
		}
		s += lines(x.L[len(x.L)-1], "\t") + "}\n"
	}
	return s
}

func texts(list []*syntax.Node) string {
	var all []string
	for _, n := range list {
		all = append(all, n.Text)
	}
	return strings.Join(all, ", ")
}

// lines writes the statements of a block.
func lines(block *syntax.Node, tabs string) string {
	s := ""
	for _, n := range block.L {
		s += tabs + line(n, tabs) + "\n"
	}
	return s
}

func line(n *syntax.Node, tabs string) string {
	body := func(i int) string { return " {\n" + lines(n.L[i], tabs+"\t") + tabs + "}" }
	switch n.Op {
	case syntax.Let:
		return "let " + n.Text + " = " + expr(n.L[0]) + ";"
	case syntax.Set:
		return n.Text + " = " + expr(n.L[0]) + ";"
	case syntax.SetField:
		return n.Text + "." + n.L[0].Text + " = " + expr(n.L[1]) + ";"
	case syntax.If:
		s := "if " + expr(n.L[0]) + body(1)
		if len(n.L) == 3 && n.L[2].Op == syntax.If {
			s += " else " + line(n.L[2], tabs)
		} else if len(n.L) == 3 {
			s += " else" + body(2)
		}
		return s
	case syntax.While:
		return "while " + expr(n.L[0]) + body(1)
	case syntax.Repeat:
		return "repeat " + expr(n.L[0]) + body(1)
	case syntax.Emit:
		return "emit " + expr(n.L[0]) + ", " + expr(n.L[1]) + ";"
	case syntax.Spawn, syntax.Add:
		var parts []string
		for _, part := range n.L {
			var values []string
			for _, value := range part.L {
				values = append(values, value.Text+": "+expr(value.L[0]))
			}
			parts = append(parts, part.Text+"{"+strings.Join(values, ", ")+"}")
		}
		word := map[int]string{syntax.Spawn: "spawn ", syntax.Add: "add "}[n.Op]
		return strings.TrimSpace(word+strings.Join(parts, ", ")) + ";"
	case syntax.Remove:
		return "remove " + n.Text + ";"
	case syntax.Die:
		return "die;"
	case syntax.Stop:
		return "stop;"
	}
	return "return " + expr(n.L[0]) + ";"
}

// rank tells how much a Binary sign binds.
func rank(sign string) int {
	return slices.IndexFunc(levels, func(level []string) bool { return slices.Contains(level, sign) })
}

func expr(n *syntax.Node) string {
	round := func(i int, needs bool) string {
		if needs {
			return "(" + expr(n.L[i]) + ")"
		}
		return expr(n.L[i])
	}
	isCond := func(i int) bool { return n.L[i].Op == syntax.Cond }
	isBinary := func(i int) bool { return n.L[i].Op == syntax.Binary }
	switch n.Op {
	case syntax.Number:
		return fmt.Sprint(n.Num)
	case syntax.Field:
		return n.Text + "." + n.L[0].Text
	case syntax.Binary:
		left := round(0, isCond(0) || isBinary(0) && rank(n.L[0].Text) < rank(n.Text))
		right := round(1, isCond(1) || isBinary(1) && rank(n.L[1].Text) <= rank(n.Text))
		return left + " " + n.Text + " " + right
	case syntax.Unary:
		return n.Text + round(0, isCond(0) || isBinary(0))
	case syntax.Cond:
		return round(0, isCond(0)) + " ? " + expr(n.L[1]) + " : " + expr(n.L[2])
	case syntax.Call:
		var args []string
		for _, arg := range n.L {
			args = append(args, expr(arg))
		}
		return n.Text + "(" + strings.Join(args, ", ") + ")"
	case syntax.Has:
		return "has(" + n.Text + ")"
	}
	return n.Text
}
