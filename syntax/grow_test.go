package syntax_test

import (
	"math/rand"
	"strconv"
	"strings"

	"hindcast/syntax"
)

// grower writes a source token by token, as the grammar has it, and the tree that the chapter's table says of that, with places.
type grower struct {
	*rand.Rand
	src     strings.Builder
	last    string // token
	fuel    int    // how many more things may be chosen
	stmts   int
	depth   int
	systems int
	funcs   int
}

// grow gives a source and its tree.
func grow(r *rand.Rand) (string, *syntax.Node) {
	g := &grower{Rand: r, fuel: 5 + r.Intn(300)}
	n := &syntax.Node{Op: syntax.Program}
	for g.may(2) || len(n.L) == 0 && r.Intn(20) > 0 {
		if r.Intn(2) == 0 && g.systems < 16 {
			n.L = append(n.L, g.system())
		} else if g.funcs < 16 {
			n.L = append(n.L, g.function())
		}
	}
	g.src.WriteString(g.gap("", true))
	return g.src.String(), n
}

// may tells whether something is to be done that need not be: once in so many times, while there is fuel.
func (g *grower) may(times int) bool {
	g.fuel--
	return g.fuel > 0 && g.Intn(times) == 0
}

func isWordByte(b byte) bool {
	return b == '_' || b >= '0' && b <= '9' || b >= 'A' && b <= 'Z' || b >= 'a' && b <= 'z'
}

// gap is what stands ahead of a token.
func (g *grower) gap(text string, end bool) string {
	gaps := []string{"", "", "", " ", "\n", "\t\r\n", "/**/", " // x = ;\n", "/* } */ "}
	gap := gaps[g.Intn(len(gaps))]
	if gap == "" && g.last != "" && !end && isWordByte(g.last[len(g.last)-1]) && isWordByte(text[0]) {
		gap = " "
	}
	if g.last == "/" && strings.HasPrefix(gap, "/") {
		gap = " " + gap
	}
	return gap
}

// put writes a token, and tells its place.
func (g *grower) put(text string) int {
	g.src.WriteString(g.gap(text, false))
	at := g.src.Len()
	g.src.WriteString(text)
	g.last = text
	return at
}

// node writes a token, and begins a node there.
func (g *grower) node(op int, token string) *syntax.Node {
	return &syntax.Node{Op: op, At: g.put(token)}
}

func (g *grower) aName() string {
	names := []string{"a", "b", "c", "Pos", "Vel", "x", "y", "lets", "If", "f", "g", "a_1", "A23456789_123456", "withs"}
	return names[g.Intn(len(names))]
}

// named begins a node with a name, which is its text.
func (g *grower) named(op int) *syntax.Node {
	text := g.aName()
	n := g.node(op, text)
	n.Text = text
	return n
}

func (g *grower) names(most int) []*syntax.Node {
	list := []*syntax.Node{g.named(syntax.Name)}
	for len(list) < most && g.may(2) {
		g.put(",")
		list = append(list, g.named(syntax.Name))
	}
	return list
}

func (g *grower) system() *syntax.Node {
	g.systems++
	n := g.node(syntax.System, "system")
	n.Text = g.aName()
	g.put(n.Text)
	var missing []*syntax.Node
	for _, word := range []string{"with", "without", "reads", "writes"} {
		clause := &syntax.Node{Op: syntax.Clause, Text: word}
		if g.may(2) {
			clause.At = g.put(word)
			clause.L = g.names(8)
		} else {
			missing = append(missing, clause)
		}
		n.L = append(n.L, clause)
	}
	block := g.block()
	for _, clause := range missing {
		clause.At = block.At
	}
	n.L = append(n.L, block)
	return n
}

func (g *grower) function() *syntax.Node {
	g.funcs++
	n := g.node(syntax.Func, "func")
	n.Text = g.aName()
	g.put(n.Text)
	clause := g.node(syntax.Clause, "(")
	clause.Text = "func"
	if g.may(2) {
		clause.L = g.names(4)
	}
	g.put(")")
	n.L = []*syntax.Node{clause, g.block()}
	return n
}

func (g *grower) block() *syntax.Node {
	n := g.node(syntax.Block, "{")
	g.depth++
	for g.stmts < 200 && (g.may(2) || g.may(2)) {
		n.L = append(n.L, g.statement())
	}
	g.depth--
	g.put("}")
	return n
}

func (g *grower) statement() *syntax.Node {
	kind := g.Intn(13)
	if g.depth == 20 && (kind >= 3 && kind <= 5 || kind == 8) {
		kind = 0 // a block, or a part, would be too deep
	}
	if kind == 3 {
		return g.branch()
	}
	g.stmts++
	n := (*syntax.Node)(nil)
	switch kind {
	case 0, 1:
		if kind == 0 {
			n = g.node(syntax.Let, "let")
			n.Text = g.aName()
			g.put(n.Text)
		} else {
			n = g.named(syntax.Set)
		}
		g.put("=")
		n.L = []*syntax.Node{g.cond()}
	case 2:
		n = g.named(syntax.SetField)
		g.put(".")
		field := g.named(syntax.Name)
		g.put("=")
		n.L = []*syntax.Node{field, g.cond()}
	case 4, 5:
		n = g.node([]int{syntax.While, syntax.Repeat}[kind-4], []string{"while", "repeat"}[kind-4])
		test := g.cond()
		n.L = []*syntax.Node{test, g.block()}
		return n
	case 6:
		n = g.node(syntax.Emit, "emit")
		first := g.cond()
		g.put(",")
		n.L = []*syntax.Node{first, g.cond()}
	case 7:
		n = g.node(syntax.Spawn, "spawn")
		for g.depth < 20 && g.may(2) {
			if len(n.L) > 0 {
				g.put(",")
			}
			n.L = append(n.L, g.part())
		}
	case 8:
		n = g.node(syntax.Add, "add")
		n.L = []*syntax.Node{g.part()}
	case 9:
		n = g.node(syntax.Remove, "remove")
		n.Text = g.aName()
		g.put(n.Text)
	case 10:
		n = g.node(syntax.Die, "die")
	case 11:
		n = g.node(syntax.Stop, "stop")
	case 12:
		n = g.node(syntax.Return, "return")
		n.L = []*syntax.Node{g.cond()}
	}
	g.put(";")
	return n
}

func (g *grower) branch() *syntax.Node {
	g.stmts++
	n := g.node(syntax.If, "if")
	test := g.cond()
	n.L = []*syntax.Node{test, g.block()}
	if g.may(2) {
		g.put("else")
		if g.stmts < 200 && g.may(2) {
			n.L = append(n.L, g.branch())
		} else {
			n.L = append(n.L, g.block())
		}
	}
	return n
}

func (g *grower) part() *syntax.Node {
	n := g.named(syntax.Part)
	g.put("{")
	g.depth++
	for g.may(2) {
		if len(n.L) > 0 {
			g.put(",")
		}
		value := g.named(syntax.Value)
		g.put(":")
		value.L = []*syntax.Node{g.cond()}
		n.L = append(n.L, value)
	}
	g.depth--
	g.put("}")
	return n
}

func (g *grower) cond() *syntax.Node {
	first := g.binary(0)
	if g.depth == 20 || !g.may(5) {
		return first
	}
	n := g.node(syntax.Cond, "?")
	g.depth++
	second := g.cond()
	g.put(":")
	n.L = []*syntax.Node{first, second, g.cond()}
	g.depth--
	return n
}

func (g *grower) binary(level int) *syntax.Node {
	if level == len(levels) {
		return g.unary()
	}
	left := g.binary(level + 1)
	for g.may(7) {
		sign := levels[level][g.Intn(len(levels[level]))]
		n := g.node(syntax.Binary, sign)
		n.Text = sign
		n.L = []*syntax.Node{left, g.binary(level + 1)}
		left = n
	}
	return left
}

func (g *grower) unary() *syntax.Node {
	if g.depth == 20 || !g.may(4) {
		return g.primary()
	}
	sign := []string{"-", "!"}[g.Intn(2)]
	n := g.node(syntax.Unary, sign)
	n.Text = sign
	g.depth++
	n.L = []*syntax.Node{g.unary()}
	g.depth--
	return n
}

func (g *grower) primary() *syntax.Node {
	kind := g.Intn(8)
	if g.depth == 20 && kind >= 6 || g.fuel < 0 {
		kind = g.Intn(2)
	}
	switch kind {
	case 0:
		num := []int64{0, 1, 2, 10, 1<<63 - 1}[g.Intn(5)]
		n := g.node(syntax.Number, strconv.FormatInt(num, 10))
		n.Num = num
		return n
	case 1, 2:
		return g.named(syntax.Name)
	case 3:
		n := g.named(syntax.Field)
		g.put(".")
		n.L = []*syntax.Node{g.named(syntax.Name)}
		return n
	case 4:
		n := g.node(syntax.Has, "has")
		g.put("(")
		n.Text = g.aName()
		g.put(n.Text)
		g.put(")")
		return n
	case 5:
		word := []string{"tick", "me"}[g.Intn(2)]
		n := g.node(syntax.Word, word)
		n.Text = word
		return n
	case 6:
		return g.call()
	}
	g.put("(")
	g.depth++
	n := g.cond()
	g.depth--
	g.put(")")
	return n
}

func (g *grower) call() *syntax.Node {
	text := []string{"rand", "input", "min", "max", "abs", g.aName()}[g.Intn(6)]
	n := g.node(syntax.Call, text)
	n.Text = text
	g.put("(")
	g.depth++
	for g.may(2) {
		if len(n.L) > 0 {
			g.put(",")
		}
		n.L = append(n.L, g.cond())
	}
	g.depth--
	g.put(")")
	return n
}
