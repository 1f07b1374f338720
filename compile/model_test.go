package compile_test

import (
	"fmt"
	"math/rand"
	"slices"
	"strconv"
	"strings"
	"testing"

	"hindcast/api"
	"hindcast/check"
	"hindcast/code"
	"hindcast/compile"
	"hindcast/syntax"
	"hindcast/verify"
)

type node = syntax.Node

// model writes the code of a routine as a text, by the chapter's tables, of the tree that Parse made: names, not numbers, stand in it, and jumps go to labels, lines with a colon, until all of it is there.
type model struct {
	tree   *node
	kinds  []api.Kind
	slots  map[string]int // of the variable of a name that was declared last
	count  int            // slots that are taken
	labels int
}

func members(tree *node, op int) []*node {
	return slices.DeleteFunc(slices.Clone(tree.L), func(n *node) bool { return n.Op != op })
}

// modelProgram is what compile.Compile makes, by the model, whatever the limits are.
func modelProgram(tree *node, kinds []api.Kind) api.Program {
	var p api.Program
	for _, n := range members(tree, syntax.System) {
		m := &model{tree: tree, kinds: kinds, slots: map[string]int{}}
		text := m.block(n.L[4]) + "stop\n"
		s := api.System{Run: api.Routine{Name: n.Text, Locals: m.count, Code: assembled(text)}}
		for i, set := range []*[]int{&s.With, &s.Without, &s.Reads, &s.Writes} {
			for kind := range kinds {
				if slices.ContainsFunc(n.L[i].L, func(name *node) bool { return name.Text == kinds[kind].Name }) {
					*set = append(*set, kind+1)
				}
			}
		}
		p.Systems = append(p.Systems, s)
	}
	for _, n := range members(tree, syntax.Func) {
		m := &model{tree: tree, kinds: kinds, slots: map[string]int{}}
		for _, param := range n.L[0].L {
			m.declare(param.Text)
		}
		text := m.block(n.L[1]) + "push 0\nret\n"
		p.Funcs = append(p.Funcs, api.Routine{Name: n.Text, Params: len(n.L[0].L), Locals: m.count, Code: assembled(text)})
	}
	return p
}

// assembled reads lines, and puts the numbers of instructions where labels were.
func assembled(text string) []api.Instr {
	places := map[string]int{}
	var lines []string
	for line := range strings.Lines(text) {
		line = strings.TrimSuffix(line, "\n")
		if label, ok := strings.CutSuffix(line, ":"); ok {
			places[label] = len(lines)
		} else {
			lines = append(lines, line)
		}
	}
	var list []api.Instr
	for _, line := range lines {
		word, number, _ := strings.Cut(line, " ")
		if place, ok := places[number]; ok {
			number = strconv.Itoa(place)
		}
		a, _ := strconv.ParseInt(number, 10, 64)
		list = append(list, api.Instr{Op: code.Number(word), A: a})
	}
	return list
}

func (m *model) label() string {
	m.labels++
	return "@" + strconv.Itoa(m.labels)
}

func (m *model) declare(name string) int {
	m.slots[name] = m.count
	m.count++
	return m.count - 1
}

func (m *model) kind(name string) int {
	return 1 + slices.IndexFunc(m.kinds, func(k api.Kind) bool { return k.Name == name })
}

func (m *model) fields(kind string) []string { return m.kinds[m.kind(kind)-1].Fields }

// field is A of what speaks of a field.
func (m *model) field(n *node) int {
	return m.kind(n.Text)*8 + slices.Index(m.fields(n.Text), n.L[0].Text)
}

func (m *model) block(n *node) string {
	text := ""
	for _, statement := range n.L {
		text += "step\n" + m.statement(statement)
	}
	return text
}

func (m *model) statement(n *node) string {
	p, q := m.label(), m.label()
	switch n.Op {
	case syntax.Let:
		e := m.e(n.L[0])
		return e + fmt.Sprintf("store %d\n", m.declare(n.Text))
	case syntax.Set:
		return m.e(n.L[0]) + fmt.Sprintf("store %d\n", m.slots[n.Text])
	case syntax.SetField:
		return m.e(n.L[1]) + fmt.Sprintf("put %d\n", m.field(n))
	case syntax.If:
		text := m.e(n.L[0]) + "zero " + p + "\n" + m.block(n.L[1])
		switch {
		case len(n.L) == 2:
			return text + p + ":\n"
		case n.L[2].Op == syntax.If:
			return text + "jump " + q + "\n" + p + ":\nstep\n" + m.statement(n.L[2]) + q + ":\n"
		}
		return text + "jump " + q + "\n" + p + ":\n" + m.block(n.L[2]) + q + ":\n"
	case syntax.While:
		return p + ":\n" + m.e(n.L[0]) + "zero " + q + "\nstep\n" + m.block(n.L[1]) + "jump " + p + "\n" + q + ":\n"
	case syntax.Repeat:
		slot := strconv.Itoa(m.declare("repeat")) // a word that no variable has
		text := m.e(n.L[0]) + "store N\nP:\nload N\npush 0\ngt\nzero Q\nstep\nload N\npush 1\nsub\nstore N\n"
		text = strings.NewReplacer("N", slot, "P", p, "Q", q).Replace(text)
		return text + m.block(n.L[1]) + "jump " + p + "\n" + q + ":\n"
	case syntax.Emit:
		return m.e(n.L[0]) + m.e(n.L[1]) + "emit\n"
	case syntax.Spawn:
		values, parts := "", ""
		for _, part := range n.L {
			values += m.values(part)
			parts = fmt.Sprintf("part %d\n", m.kind(part.Text)*8+len(m.fields(part.Text))) + parts
		}
		return values + parts + "spawn\n"
	case syntax.Add:
		return m.values(n.L[0]) + fmt.Sprintf("give %d\n", m.kind(n.L[0].Text)*8+len(m.fields(n.L[0].Text)))
	case syntax.Remove:
		return fmt.Sprintf("take %d\n", m.kind(n.Text))
	case syntax.Return:
		return m.e(n.L[0]) + "ret\n"
	}
	return map[int]string{syntax.Die: "die\n", syntax.Stop: "stop\n"}[n.Op]
}

func (m *model) values(part *node) string {
	text := ""
	for _, field := range m.fields(part.Text) {
		e := "push 0\n"
		for _, value := range part.L {
			if value.Text == field {
				e = m.e(value.L[0])
			}
		}
		text += e
	}
	return text
}

// e is the code of an expression.
func (m *model) e(n *node) string {
	p, q := m.label(), m.label()
	switch n.Op {
	case syntax.Number:
		return fmt.Sprintf("push %d\n", n.Num)
	case syntax.Name:
		return fmt.Sprintf("load %d\n", m.slots[n.Text])
	case syntax.Field:
		return fmt.Sprintf("field %d\n", m.field(n))
	case syntax.Has:
		return fmt.Sprintf("has %d\n", m.kind(n.Text))
	case syntax.Word:
		return n.Text + "\n"
	case syntax.Cond:
		return m.e(n.L[0]) + "zero " + p + "\n" + m.e(n.L[1]) + "jump " + q + "\n" + p + ":\n" + m.e(n.L[2]) + q + ":\n"
	case syntax.Binary:
		switch n.Text {
		case "&&":
			return m.e(n.L[0]) + "zero " + p + "\n" + m.e(n.L[1]) + "jump " + q + "\n" + p + ":\npush 0\n" + q + ":\n"
		case "||":
			return m.e(n.L[0]) + "zero " + p + "\npush 1\njump " + q + "\n" + p + ":\n" + m.e(n.L[1]) + q + ":\n"
		}
	}
	text := ""
	for _, child := range n.L {
		text += m.e(child)
	}
	if n.Op == syntax.Unary {
		return text + map[string]string{"-": "neg\n", "!": "not\n"}[n.Text]
	}
	if n.Op == syntax.Binary {
		return text + map[string]string{"+": "add", "-": "sub", "*": "mul", "/": "div", "%": "rem", "==": "eq", "!=": "ne", "<": "lt", "<=": "le", ">": "gt", ">=": "ge"}[n.Text] + "\n"
	}
	if f := slices.IndexFunc(members(m.tree, syntax.Func), func(f *node) bool { return f.Text == n.Text }); f >= 0 {
		return text + fmt.Sprintf("call %d\n", f)
	}
	return text + n.Text + "\n"
}

// depths goes through all ways of a routine, and gives the depth at each instruction, and the greatest one behind any. What stands behind an end is no way's, but was written for a depth of 0.
func depths(t testing.TB, p api.Program, r api.Routine) (list []int, most int) {
	t.Helper()
	list = make([]int, len(r.Code))
	for i := range list {
		list[i] = -1
	}
	var reach func(at, depth int)
	reach = func(at, depth int) {
		for {
			if at < 0 || at >= len(r.Code) {
				t.Fatalf("X1: %s goes to %d of %d instructions", r.Name, at, len(r.Code))
			}
			if list[at] >= 0 {
				if list[at] != depth {
					t.Fatalf("X1: %s is at %d with the depths %d and %d", r.Name, at, list[at], depth)
				}
				return
			}
			list[at] = depth
			i := r.Code[at]
			takes, puts := code.Effect(i, p.Funcs)
			if depth < takes {
				t.Fatalf("X1: %s takes at %d what is not there", r.Name, at)
			}
			depth += puts - takes
			most = max(most, depth)
			switch i.Op {
			case code.Ret, code.Stop:
				if depth != 0 {
					t.Fatalf("X1: %s ends at %d with %d numbers left", r.Name, at, depth)
				}
				return
			case code.Zero:
				reach(int(i.A), depth)
			case code.Jump:
				at = int(i.A) - 1
			}
			at++
		}
	}
	reach(0, 0)
	for at := range list {
		if list[at] < 0 {
			reach(at, 0)
		}
	}
	return list, most
}

// modelCompile is compile.Compile, by the model.
func modelCompile(t testing.TB, tree *node, kinds []api.Kind) (api.Program, api.Errno) {
	p := modelProgram(tree, kinds)
	highest := 0
	for _, r := range routinesOf(p) {
		_, most := depths(t, p, r)
		highest = max(highest, most)
	}
	switch {
	case highest > 64:
		return api.Program{}, api.ErrStack
	case length(p) > 2000:
		return api.Program{}, api.ErrLong
	}
	return p, api.OK
}

func routinesOf(p api.Program) []api.Routine {
	var list []api.Routine
	for _, s := range p.Systems {
		list = append(list, s.Run)
	}
	return append(list, p.Funcs...)
}

// compare asks compile and the model, and lets what comes out run; of a source that means nothing it tells false.
func compare(t testing.TB, src string, list []api.Kind, envs []api.Env) (api.Errno, bool) {
	t.Helper()
	n, err := syntax.Parse(src)
	if err != nil {
		return api.OK, false
	}
	c, err := check.Check(n, list)
	if err != nil {
		return api.OK, false
	}
	p, e := compile.Compile(c)
	want, other := modelCompile(t, n, list)
	if e != other || told(p) != told(want) {
		t.Fatalf("X1: %.3000s\nof %v\nerror %d, want %d\ngot  %s\nwant %s", src, list, e, other, told(p), told(want))
	}
	if e != api.OK && (p.Systems != nil || p.Funcs != nil) {
		t.Fatalf("P2: %.3000s: an error, and a program", src)
	}
	if _, bad := code.Encode(p); bad != api.OK {
		t.Fatalf("X1: %.3000s: the program may not be written", src)
	}
	if err := verify.Verify(p, list); err != nil {
		t.Fatalf("P7: %.3000s: the program may not run: %v\n%s", src, err, told(p))
	}
	if e == api.OK {
		for _, env := range envs {
			wantSameRuns(t, src, c, p, env)
		}
	}
	return e, true
}

// TestAgainstModel: X1, grown programs, some of which are too high or too long.
func TestAgainstModel(t *testing.T) {
	seen := map[api.Errno]int{}
	for seed := range 3000 {
		r := rand.New(rand.NewSource(int64(seed)))
		src, list := grow(r)
		if seed%4 == 0 {
			src = greater(r, src)
		}
		e, ok := compare(t, src, list, []api.Env{someEnv(r, list), someEnv(r, list)})
		if !ok {
			t.Fatalf("the test's own source means nothing: %s", src)
		}
		seen[e]++
	}
	if seen[api.OK] < 2000 || seen[api.ErrStack] < 20 || seen[api.ErrLong] < 20 {
		t.Errorf("the test's own sources are of too few sorts: %v", seen)
	}
}

// greater puts towers and fills into a new system of a source, so that it comes near the limits.
func greater(r *rand.Rand, src string) string {
	body := ""
	for i := range r.Intn(4) {
		name := fmt.Sprint("z", i)
		if r.Intn(2) == 0 {
			body += fill(3+r.Intn(1500), name)
		} else {
			body += "let " + name + " = " + tower(40+r.Intn(28), "me") + ";"
		}
	}
	both := src + "\nsystem Greater { " + body + " } func four(a, b, c, d) { return a + d; }"
	if len(both) > api.MaxSource || strings.Count(both, "func ") > api.MaxFuncs {
		return src
	}
	return both
}

// FuzzCompile: P1 and X1, any source, for kinds of all sorts, and entities that are grown.
func FuzzCompile(f *testing.F) {
	for seed := range 40 {
		r := rand.New(rand.NewSource(int64(seed)))
		src, _ := grow(r)
		f.Add(src, int64(seed))
		f.Add(greater(r, src), int64(seed))
	}
	f.Add(busy, int64(1))
	for i, body := range []string{"Pos.x = Pos.x + Vel.x; emit me, tick;", "let i = 0; while i < 3 { i = i + 1; }", "spawn Box{b: rand(3)}, Pos{x: Pos.x / 0}; stop;"} {
		f.Add("func f(a) { return a * 2; } system M reads Vel writes Pos { "+body+" }", int64(i))
	}
	f.Fuzz(func(t *testing.T, src string, seed int64) {
		r := rand.New(rand.NewSource(seed))
		if _, ok := compare(t, src, kinds(), []api.Env{someEnv(r, kinds())}); ok {
			_, list := grow(r)
			compare(t, src, list, []api.Env{someEnv(r, list)})
		}
	})
}
