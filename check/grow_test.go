package check_test

import (
	"fmt"
	"math/rand"
	"slices"
	"strconv"
	"strings"

	"hindcast/api"
	"hindcast/lex"
)

// grower writes a program that means something, but for a slip once in so many times (0: never).
type grower struct {
	*rand.Rand
	slips   int
	fuel    int // how many more things may be chosen
	kinds   []api.Kind
	funcs   []signature
	callees []signature // that may be called here without a round
	system  bool
	clauses [4][]int // of the system: the kinds' places
	known   []string // variables, the innermost last
	slots   int
	depth   int
	fresh   int // how many names were made
}

type signature struct {
	name   string
	params []string
}

// grow gives a source, and the kinds for it.
func grow(r *rand.Rand, slips int) (string, []api.Kind) {
	g := &grower{Rand: r, slips: slips, fuel: 10 + r.Intn(150)}
	g.kinds = someKinds(r)
	for range r.Intn(6) {
		f := signature{name: g.newName("f")}
		for range r.Intn(5) {
			f.params = append(f.params, g.newName("p"))
		}
		g.funcs = append(g.funcs, f)
	}
	var members []string
	for i := range g.funcs {
		g.callees = g.funcs[:i]
		members = append(members, g.function(g.funcs[i]))
	}
	g.callees = g.funcs
	for range r.Intn(4) {
		members = append(members, g.aSystem())
	}
	r.Shuffle(len(members), func(i, k int) { members[i], members[k] = members[k], members[i] })
	return strings.Join(members, "\n"), g.kinds
}

func someKinds(r *rand.Rand) []api.Kind {
	names := []string{"Pos", "Vel", "Mark", "Box", "K1", "K2", "pos", "x", "f1", "A_1", "Zz", "Q"}
	fields := []string{"x", "y", "z", "w", "Pos", "a", "b", "p1"}
	var list []api.Kind
	for _, i := range r.Perm(len(names))[:1+r.Intn(len(names))] {
		k := api.Kind{Name: names[i]}
		for _, j := range r.Perm(len(fields))[:r.Intn(5)] {
			k.Fields = append(k.Fields, fields[j])
		}
		list = append(list, k)
	}
	return list
}

func (g *grower) slip() bool { return g.slips > 0 && g.Intn(g.slips) == 0 }

func (g *grower) may(times int) bool {
	g.fuel--
	return g.fuel > 0 && g.Intn(times) == 0
}

func pick[T any](g *grower, list []T) T { return list[g.Intn(len(list))] }

func (g *grower) newName(begin string) string {
	g.fresh++
	return begin + strconv.Itoa(g.fresh)
}

func (g *grower) anyName() string {
	return pick(g, []string{"Pos", "Vel", "Mark", "Nix", "x", "y", "a", "p1", "p2", "f1", "f2", "v9", "v10"})
}

func (g *grower) function(f signature) string {
	params := slices.Clone(f.params)
	if g.slip() {
		params = append(params, g.anyName())[:min(len(params)+1, 4)]
	}
	g.system, g.known, g.slots = false, slices.Clone(params), len(params)
	return "func " + f.name + "(" + strings.Join(params, ", ") + ") " + g.block()
}

func (g *grower) aSystem() string {
	g.system, g.known, g.slots, g.clauses = true, nil, 0, [4][]int{}
	for i := range g.kinds {
		if c := g.Intn(6); c < 4 {
			g.clauses[c] = append(g.clauses[c], i)
		}
	}
	src := "system " + g.newName("S")
	for c, word := range []string{"with", "without", "reads", "writes"} {
		g.Shuffle(len(g.clauses[c]), func(i, k int) {
			g.clauses[c][i], g.clauses[c][k] = g.clauses[c][k], g.clauses[c][i]
		})
		var names []string
		for _, i := range g.clauses[c] {
			names = append(names, g.kinds[i].Name)
		}
		if g.slip() {
			names = append(names, g.anyName())
		}
		if len(names) > 0 {
			src += " " + word + " " + strings.Join(names, ", ")
		}
	}
	return src + " " + g.block()
}

func (g *grower) block() string {
	before := len(g.known)
	g.depth++
	src := "{ "
	for g.may(2) || g.may(2) {
		src += g.statement() + " "
	}
	g.depth--
	if !g.slip() { // else what was declared within is held to be known behind it
		g.known = g.known[:before]
	}
	return src + "}"
}

func (g *grower) statement() string {
	kind := g.Intn(14)
	if !g.system && kind >= 8 && kind <= 12 && !g.slip() {
		kind = g.Intn(4)
	}
	switch kind {
	case 0, 1:
		return g.let()
	case 2:
		if len(g.known) > 0 || g.slip() {
			return g.variable() + " = " + g.number(3) + ";"
		}
	case 3:
		if g.system || g.slip() {
			if kind, field, ok := g.field(g.clauses[3]); ok {
				return kind + "." + field + " = " + g.number(3) + ";"
			}
		}
	case 4, 5, 6:
		if g.depth < 6 {
			return g.compound(kind)
		}
	case 7, 8:
		if g.system || g.slip() {
			return "emit " + g.number(3) + ", " + g.number(3) + ";"
		}
	case 9:
		return g.spawn()
	case 10:
		return "add " + g.part(pick(g, g.kinds)) + ";"
	case 11:
		return "remove " + g.kind() + ";"
	case 12:
		return pick(g, []string{"die;", "stop;"})
	case 13:
		if !g.system || g.slip() {
			return "return " + g.number(3) + ";"
		}
	}
	return g.let()
}

// let is a declaration, or, where all slots are taken, something that needs none.
func (g *grower) let() string {
	if g.slots == api.MaxLocals && !g.slip() {
		return "if " + g.truth(1) + " { }"
	}
	g.slots++
	e := g.number(3)
	name := g.newName("v")
	if g.slip() {
		name = g.anyName()
	}
	if g.Intn(5) == 0 { // a name that was there, and is known no more
		if old := "v" + strconv.Itoa(g.Intn(g.fresh)); !slices.Contains(g.known, old) {
			name = old
		}
	}
	g.known = append(g.known, name)
	return "let " + name + " = " + e + ";"
}

func (g *grower) compound(kind int) string {
	switch kind {
	case 4:
		src := "if " + g.truth(3) + " " + g.block()
		for g.may(3) {
			src += " else if " + g.truth(2) + " " + g.block()
		}
		if g.may(2) {
			src += " else " + g.block()
		}
		return src
	case 5:
		return "while " + g.truth(3) + " " + g.block()
	}
	if g.slots == api.MaxLocals && !g.slip() {
		return "while " + g.truth(2) + " { }"
	}
	g.slots++
	return "repeat " + g.number(3) + " " + g.block()
}

func (g *grower) spawn() string {
	var parts []string
	for _, i := range g.Perm(len(g.kinds)) {
		if g.Intn(3) == 0 {
			parts = append(parts, g.part(g.kinds[i]))
		}
	}
	if g.slip() {
		parts = append(parts, g.part(pick(g, g.kinds)))
	}
	return strings.TrimSpace("spawn "+strings.Join(parts, ", ")) + ";"
}

func (g *grower) part(kind api.Kind) string {
	var values []string
	for _, field := range kind.Fields {
		if g.Intn(2) == 0 {
			values = append(values, field+": "+g.number(2))
		}
	}
	if g.slip() {
		values = append(values, g.anyName()+": "+g.number(1))
	}
	if g.slip() {
		slices.Reverse(values)
	}
	return kind.Name + "{" + strings.Join(values, ", ") + "}"
}

func (g *grower) kind() string {
	if g.slip() {
		return g.anyName()
	}
	return pick(g, g.kinds).Name
}

// field gives a field of one of these kinds, if there is one.
func (g *grower) field(kinds []int) (kind string, field string, ok bool) {
	if g.slip() {
		return g.kind(), g.anyName(), true
	}
	for _, i := range kinds {
		if k := g.kinds[i]; len(k.Fields) > 0 {
			return k.Name, pick(g, k.Fields), true
		}
	}
	return "", "", false
}

func (g *grower) variable() string {
	if len(g.known) == 0 || g.slip() {
		return g.anyName()
	}
	return pick(g, g.known)
}

// number is an expression of at most this many things within one another; compound ones stand in parentheses.
func (g *grower) number(deep int) string {
	if g.slip() {
		return g.truth(deep)
	}
	if deep == 0 || !g.may(2) {
		return g.leaf()
	}
	switch g.Intn(6) {
	case 0, 1:
		return "(" + g.number(deep-1) + pick(g, []string{" + ", " - ", " * ", " / ", " % "}) + g.number(deep-1) + ")"
	case 2:
		return "-" + g.number(deep-1)
	case 3:
		return "(" + g.truth(deep-1) + " ? " + g.number(deep-1) + " : " + g.number(deep-1) + ")"
	}
	return g.call(deep)
}

func (g *grower) call(deep int) string {
	list := append([]signature{{"rand", []string{""}}, {"input", []string{"", ""}}, {"min", []string{"", ""}}, {"max", []string{"", ""}}, {"abs", []string{""}}}, g.callees...)
	if g.slip() {
		list = append(list, g.funcs...)
	}
	f := pick(g, list)
	var args []string
	for range f.params {
		args = append(args, g.number(deep-1))
	}
	if g.slip() {
		args = append(args, "1")
	}
	return f.name + "(" + strings.Join(args, ", ") + ")"
}

func (g *grower) leaf() string {
	switch g.Intn(5) {
	case 0:
		return pick(g, []string{"tick", "me"})
	case 1, 2:
		if len(g.known) > 0 || g.slip() {
			return g.variable()
		}
	case 3:
		if g.system || g.slip() {
			if kind, field, ok := g.field(append(slices.Clone(g.clauses[3]), g.clauses[2]...)); ok {
				return kind + "." + field
			}
		}
	}
	return fmt.Sprint(g.Intn(4))
}

func (g *grower) truth(deep int) string {
	if g.slip() {
		return g.number(deep)
	}
	if deep == 0 || !g.may(2) {
		if g.system && g.Intn(2) == 0 || g.slip() {
			return "has(" + g.kind() + ")"
		}
		return "(" + g.leaf() + " < 3)"
	}
	switch g.Intn(5) {
	case 0, 1:
		return "(" + g.number(deep-1) + pick(g, []string{" == ", " != ", " < ", " <= ", " > ", " >= "}) + g.number(deep-1) + ")"
	case 2:
		return "(" + g.truth(deep-1) + pick(g, []string{" && ", " || "}) + g.truth(deep-1) + ")"
	case 3:
		return "!" + g.truth(deep-1)
	}
	return "(" + g.truth(deep-1) + " ? " + g.truth(deep-1) + " : " + g.truth(deep-1) + ")"
}

// spoil puts another name, number or sign in the place of one, or takes a part away, or doubles it.
func spoil(r *rand.Rand, src string) string {
	tokens, err := lex.Lex(src)
	if err != nil || len(tokens) < 2 {
		return src
	}
	i := r.Intn(len(tokens) - 1)
	one, two := tokens[i], tokens[r.Intn(len(tokens)-1)]
	other := two.Text
	switch {
	case r.Intn(12) == 0: // away, or twice, up to the end of a statement
		end := one.At + strings.IndexAny(src[one.At:], ";}") + 1
		return src[:end] + strings.Repeat(src[one.At:end], r.Intn(2)) + src[end:]
	case r.Intn(12) == 0:
		return strings.Replace(src, " writes ", " reads ", 1)
	case one.Kind == api.TokWord && tokens[i+1].Text == "(" && r.Intn(2) == 0:
		other = "f" + strconv.Itoa(1+r.Intn(6))
	case one.Kind == api.TokWord && r.Intn(3) > 0 && two.Kind != api.TokWord:
		other = []string{"Pos", "x", "y", "v3", "f1", "p2", "Nix", "me", "rand", "abs", "has(Pos)"}[r.Intn(11)]
	case one.Kind == api.TokNumber:
		other = []string{"(1 < 2)", "x", "v3", "rand(1)", "p1", "has(Pos)", "Pos.x"}[r.Intn(7)]
	case one.Kind == api.TokSign && strings.Contains("+-*/%<=>=!=&&||", one.Text):
		other = []string{"+", "<", "==", "&&", "||", "%"}[r.Intn(6)]
	}
	return src[:one.At] + " " + other + " " + src[one.At+len(one.Text):]
}
