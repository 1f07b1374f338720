package compile_test

import (
	"math/rand"
	"slices"
	"strconv"
	"strings"

	"hindcast/api"
)

// grower writes a program that means something, and most of whose runs end by themselves.
type grower struct {
	*rand.Rand
	room    int // how many more things may be chosen in this system or function
	kinds   []api.Kind
	funcs   []signature // that may be called
	system  bool
	clauses [4][]int // of the system: the kinds' places
	known   []string // variables, the innermost last
	counts  []string // those of them that loops count by: nobody else writes them
	slots   int
	depth   int
	fresh   int // how many names were made
}

type signature struct {
	name   string
	params int
}

// grow gives a source of one system or more, and the kinds for it.
func grow(r *rand.Rand) (string, []api.Kind) {
	g := &grower{Rand: r, kinds: someKinds(r)}
	var list []string
	for range r.Intn(5) {
		f := signature{g.newName("f"), r.Intn(5)}
		list = append(list, g.function(f))
		g.funcs = append(g.funcs, f)
	}
	for range 1 + r.Intn(3) {
		list = append(list, g.aSystem())
	}
	r.Shuffle(len(list), func(i, k int) { list[i], list[k] = list[k], list[i] })
	return strings.Join(list, "\n"), g.kinds
}

func someKinds(r *rand.Rand) []api.Kind {
	names := []string{"Pos", "Vel", "Mark", "Box", "K1", "K2", "pos", "x", "f1", "A_1", "Zz", "Q"}
	fields := []string{"x", "y", "z", "w", "Pos", "a", "b", "p1"}
	var list []api.Kind
	for _, i := range r.Perm(len(names))[:1+r.Intn(len(names))] {
		k := api.Kind{Name: names[i]}
		for _, j := range r.Perm(len(fields))[:r.Intn(5)] {
			k.Fields = append(k.Fields, fields[j])
		}
		list = append(list, k)
	}
	return list
}

// someEnv gives an entity that has most kinds, and mostly right values.
func someEnv(r *rand.Rand, kinds []api.Kind) api.Env {
	e := api.Env{Frame: r.Intn(8) - 1, Seed: r.Int63n(4) - 1, System: r.Intn(3), Row: api.Row{E: api.Entity{Index: r.Intn(6) - 1, Gen: r.Intn(3)}}}
	for range r.Intn(8) {
		e.Inputs = append(e.Inputs, api.Input{Player: r.Intn(4) - 1, Key: r.Intn(4) - 1, Value: someNumber(r)})
	}
	lacks := r.Intn(3) == 0
	for i, kind := range kinds {
		if lacks && r.Intn(6) == 0 {
			continue
		}
		part := api.Part{Kind: i + 1}
		count := len(kind.Fields)
		if r.Intn(40) == 0 {
			count = r.Intn(6)
		}
		for range count {
			part.Values = append(part.Values, someNumber(r))
		}
		e.Row.Parts = append(e.Row.Parts, part)
	}
	for range r.Intn(3) {
		e.Row.Parts = append(e.Row.Parts, api.Part{Kind: r.Intn(len(kinds)+4) - 2, Values: []int64{1, 2, 3, 4}[:r.Intn(5)]})
	}
	if r.Intn(4) == 0 {
		r.Shuffle(len(e.Row.Parts), func(i, k int) { e.Row.Parts[i], e.Row.Parts[k] = e.Row.Parts[k], e.Row.Parts[i] })
	}
	return e
}

func someNumber(r *rand.Rand) int64 {
	switch r.Intn(12) {
	case 0:
		return int64(r.Uint64())
	case 1:
		return []int64{1<<63 - 1, -1 << 63, -1 << 31, 1 << 32}[r.Intn(4)]
	}
	return int64(r.Intn(12) - 3)
}

func (g *grower) may(times int) bool {
	g.room--
	return g.room > 0 && g.Intn(times) == 0
}

func pick[T any](g *grower, list []T) T { return list[g.Intn(len(list))] }

func (g *grower) newName(begin string) string {
	g.fresh++
	return begin + strconv.Itoa(g.fresh)
}

func (g *grower) function(f signature) string {
	g.system, g.known, g.slots, g.room = false, nil, f.params, 5+g.Intn(50)
	for range f.params {
		g.known = append(g.known, g.newName("p"))
	}
	return "func " + f.name + "(" + strings.Join(g.known, ", ") + ") " + g.block("")
}

func (g *grower) aSystem() string {
	g.system, g.known, g.slots, g.clauses, g.room = true, nil, 0, [4][]int{}, 5+g.Intn(100)
	for _, i := range g.Perm(len(g.kinds)) {
		if c := g.Intn(6); c < 4 {
			g.clauses[c] = append(g.clauses[c], i)
		}
	}
	src := "system " + g.newName("S")
	for c, word := range []string{"with", "without", "reads", "writes"} {
		var names []string
		for _, i := range g.clauses[c] {
			names = append(names, g.kinds[i].Name)
		}
		if len(names) > 0 {
			src += " " + word + " " + strings.Join(names, ", ")
		}
	}
	return src + " " + g.block("")
}

// block is one that begins with a statement that is given.
func (g *grower) block(first string) string {
	before := len(g.known)
	g.depth++
	src := "{ " + first
	for g.may(2) || g.may(2) || g.depth == 1 && g.may(2) {
		src += g.statement() + " "
	}
	g.depth--
	g.known = g.known[:before]
	return src + "}"
}

func (g *grower) statement() string {
	kind := g.Intn(17)
	if !g.system && kind >= 8 {
		kind = g.Intn(8)
	}
	switch kind {
	case 0, 1:
		return g.let()
	case 2, 3:
		if v := g.free(); v != "" {
			return v + " = " + g.number(3) + ";"
		}
	case 4, 5, 6:
		if g.depth < 6 {
			return g.compound(kind)
		}
	case 7:
		if g.system {
			return pick(g, []string{"stop;", "die;", "die;", "die;"})
		}
		if g.Intn(2) == 0 {
			return "return " + g.number(3) + ";"
		}
	case 8, 9, 10:
		if kind, field, ok := g.field(g.clauses[3]); ok {
			return kind + "." + field + " = " + g.number(3) + ";"
		}
	case 11, 12, 13:
		return "emit " + g.number(3) + ", " + g.number(3) + ";"
	case 14:
		return g.spawn()
	case 15:
		return "add " + g.part(pick(g, g.kinds)) + ";"
	case 16:
		return "remove " + pick(g, g.kinds).Name + ";"
	}
	return g.let()
}

// free is a variable that no loop counts by.
func (g *grower) free() string {
	list := slices.DeleteFunc(slices.Clone(g.known), func(v string) bool { return slices.Contains(g.counts, v) })
	if len(list) == 0 {
		return ""
	}
	return pick(g, list)
}

// let is a declaration, or, where many slots are taken, something that needs none.
func (g *grower) let() string {
	if g.slots > api.MaxLocals-8 {
		return "if " + g.truth(1) + " { }"
	}
	g.slots++
	e := g.number(3)
	g.known = append(g.known, g.newName("v"))
	return "let " + g.known[len(g.known)-1] + " = " + e + ";"
}

func (g *grower) compound(kind int) string {
	if g.slots > api.MaxLocals-4 {
		kind = 4
	}
	switch {
	case kind == 4:
		src := "if " + g.truth(3) + " " + g.block("")
		for g.may(3) {
			src += " else if " + g.truth(2) + " " + g.block("")
		}
		if g.may(2) {
			src += " else " + g.block("")
		}
		return src
	case kind == 5 && g.Intn(12) == 0:
		return "while " + g.truth(3) + " " + g.block("")
	case kind == 5:
		g.slots++
		v := g.newName("n")
		g.known, g.counts = append(g.known, v), append(g.counts, v)
		return "let " + v + " = " + strconv.Itoa(g.Intn(4)) + "; while " + v + pick(g, []string{" < ", " <= ", " != "}) + strconv.Itoa(3+g.Intn(3)) + " " + g.block(v+" = "+v+" + 1; ")
	}
	g.slots++
	count := strconv.Itoa(g.Intn(5))
	if g.Intn(4) == 0 {
		count = "rand(" + g.number(1) + ") % 9"
	} else if g.Intn(9) == 0 {
		count = g.number(2)
	}
	return "repeat " + count + " " + g.block("")
}

func (g *grower) spawn() string {
	var parts []string
	for _, i := range g.Perm(len(g.kinds)) {
		if g.Intn(3) == 0 {
			parts = append(parts, g.part(g.kinds[i]))
		}
	}
	return strings.TrimSpace("spawn "+strings.Join(parts, ", ")) + ";"
}

func (g *grower) part(kind api.Kind) string {
	var values []string
	for _, field := range kind.Fields {
		if g.Intn(2) == 0 {
			values = append(values, field+": "+g.number(2))
		}
	}
	return kind.Name + "{" + strings.Join(values, ", ") + "}"
}

// field gives a field of one of these kinds, if there is one.
func (g *grower) field(kinds []int) (kind string, field string, ok bool) {
	for _, i := range kinds {
		if k := g.kinds[i]; len(k.Fields) > 0 && (g.Intn(2) == 0 || i == kinds[len(kinds)-1]) {
			return k.Name, pick(g, k.Fields), true
		}
	}
	return "", "", false
}

// number is an expression of at most this many things within one another; compound ones stand in parentheses.
func (g *grower) number(deep int) string {
	if deep == 0 || !g.may(2) {
		return g.leaf()
	}
	switch g.Intn(6) {
	case 0, 1:
		return "(" + g.number(deep-1) + pick(g, []string{" + ", " - ", " * ", " / ", " % "}) + g.number(deep-1) + ")"
	case 2:
		return "-" + g.number(deep-1)
	case 3:
		return "(" + g.truth(deep-1) + " ? " + g.number(deep-1) + " : " + g.number(deep-1) + ")"
	}
	return g.call(deep)
}

func (g *grower) call(deep int) string {
	f := pick(g, append([]signature{{"rand", 1}, {"input", 2}, {"min", 2}, {"max", 2}, {"abs", 1}}, g.funcs...))
	var args []string
	for range f.params {
		args = append(args, g.number(deep-1))
	}
	return f.name + "(" + strings.Join(args, ", ") + ")"
}

func (g *grower) leaf() string {
	switch g.Intn(8) {
	case 0:
		return pick(g, []string{"tick", "me"})
	case 1, 2, 3:
		if len(g.known) > 0 {
			return pick(g, g.known)
		}
	case 4, 5:
		if g.system {
			if kind, field, ok := g.field(append(slices.Clone(g.clauses[3]), g.clauses[2]...)); ok {
				return kind + "." + field
			}
		}
	case 6:
		return pick(g, []string{"9223372036854775807", "4294967296", "2", "0"})
	}
	return strconv.Itoa(g.Intn(5))
}

func (g *grower) truth(deep int) string {
	if deep == 0 || !g.may(2) {
		if g.system && g.Intn(2) == 0 {
			return "has(" + pick(g, g.kinds).Name + ")"
		}
		return "(" + g.leaf() + pick(g, []string{" < ", " > ", " == "}) + g.leaf() + ")"
	}
	switch g.Intn(5) {
	case 0, 1:
		return "(" + g.number(deep-1) + pick(g, []string{" == ", " != ", " < ", " <= ", " > ", " >= "}) + g.number(deep-1) + ")"
	case 2:
		return "(" + g.truth(deep-1) + pick(g, []string{" && ", " || "}) + g.truth(deep-1) + ")"
	case 3:
		return "!" + g.truth(deep-1)
	}
	return "(" + g.truth(deep-1) + " ? " + g.truth(deep-1) + " : " + g.truth(deep-1) + ")"
}
