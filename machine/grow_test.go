package machine_test

import (
	"math/rand"
	"slices"
	"strconv"

	"hindcast/api"
	"hindcast/code"
)

// kinds are twelve: the kind k has k % 5 fields.
func kinds() []api.Kind {
	var list []api.Kind
	for k := 1; k <= 12; k++ {
		list = append(list, api.Kind{Name: "K" + strconv.Itoa(k), Fields: []string{"a", "b", "c", "d"}[:k%5]})
	}
	return list
}

// grower writes a routine that keeps to its stack and to what it may touch.
type grower struct {
	*rand.Rand
	system   *api.System // nil of a function
	locals   int
	funcs    []api.Routine // all that there will be: only those from callable on are called
	callable int
	list     []api.Instr
	depth    int
	nested   int
	room     int  // how many more pieces may be laid down
	stepless bool // it has few steps
}

// grow gives a program of one system or more, of the kinds above.
func grow(r *rand.Rand) api.Program {
	var p api.Program
	for i := range r.Intn(5) {
		params := r.Intn(5)
		p.Funcs = append(p.Funcs, api.Routine{Name: "f" + strconv.Itoa(i), Params: params, Locals: params + r.Intn(4)})
	}
	for i := range 1 + r.Intn(3) {
		s := api.System{With: someSet(r), Without: someSet(r), Reads: someSet(r), Writes: someSet(r)}
		s.Run = api.Routine{Name: "s" + strconv.Itoa(i), Locals: r.Intn(5)}
		g := &grower{Rand: r, system: &s, locals: s.Run.Locals, funcs: p.Funcs, room: 1 + r.Intn(40), stepless: r.Intn(8) == 0}
		s.Run.Code = g.code()
		p.Systems = append(p.Systems, s)
	}
	for i, f := range p.Funcs {
		g := &grower{Rand: r, locals: f.Locals, funcs: p.Funcs, callable: i + 1, room: 1 + r.Intn(15), stepless: r.Intn(8) == 0}
		p.Funcs[i].Code = g.code()
	}
	return p
}

func someSet(r *rand.Rand) []int {
	var set []int
	for k := 1; k <= 12; k++ {
		if r.Intn(3) == 0 {
			set = append(set, k)
		}
	}
	return set
}

func someNumber(r *rand.Rand) int64 {
	switch r.Intn(14) {
	case 0:
		return int64(r.Uint64())
	case 1:
		return []int64{1<<63 - 1, -1 << 63, -1 << 31, 1 << 32}[r.Intn(4)]
	}
	return int64(r.Intn(12) - 3)
}

func (g *grower) lay(op int, a int64) {
	i := api.Instr{Op: op, A: a}
	takes, puts := code.Effect(i, g.funcs)
	g.list = append(g.list, i)
	g.depth += puts - takes
}

// leap lays down a jump whose end is not known yet; land tells it: here.
func (g *grower) leap(op int) int {
	g.lay(op, 0)
	return len(g.list) - 1
}

func (g *grower) land(at int) { g.list[at].A = int64(len(g.list)) }

func (g *grower) code() []api.Instr {
	g.pieces()
	if g.system != nil {
		g.lay(code.Stop, 0)
		return g.list
	}
	if g.depth == 0 {
		g.value()
	}
	g.lay(code.Ret, 0)
	return g.list
}

// pieces lays down some, and leaves the stack as deep as it was, where something stands around them.
func (g *grower) pieces() {
	before := g.depth
	for range 1 + g.Intn(12) {
		if g.room--; g.room < 0 {
			break
		}
		if !g.stepless && g.Intn(3) == 0 {
			g.lay(code.Step, 0)
		}
		g.piece()
	}
	for g.nested > 0 && g.depth < before {
		g.value()
	}
	for g.nested > 0 && g.depth > before {
		g.lay(code.Drop, 0)
	}
}

func (g *grower) piece() {
	switch c := g.Intn(18); {
	case c < 3 && g.depth < 50:
		for range 1 + g.Intn(4) {
			g.value()
		}
	case c < 7 && g.depth > 0:
		g.reckon()
	case c == 7 && g.depth > 0:
		g.drop()
	case c == 8 && g.callable < len(g.funcs):
		g.call()
	case c < 11 && g.nested < 3:
		g.branch()
	case c == 11 && g.nested < 3:
		g.loop()
	case c > 11 && g.system != nil:
		g.tell()
	default:
		g.value()
		g.drop()
	}
}

// value puts one number on the stack.
func (g *grower) value() {
	switch c := g.Intn(8); {
	case c < 2 && g.locals > 0:
		g.lay(code.Load, int64(g.Intn(g.locals)))
	case c == 2:
		g.lay([]int{code.Tick, code.Me}[g.Intn(2)], 0)
	case c == 3 && g.system != nil:
		g.lay(code.Has, int64(1+g.Intn(12)))
	case c < 6 && g.system != nil:
		if a, ok := g.field(slices.Concat(g.system.Reads, g.system.Writes)); ok {
			g.lay(code.Field, a)
			return
		}
		g.lay(code.Me, 0)
	default:
		g.lay(code.Push, someNumber(g.Rand))
	}
}

// field is A of a field of one of these kinds.
func (g *grower) field(set []int) (int64, bool) {
	if len(set) == 0 {
		return 0, false
	}
	kind := set[g.Intn(len(set))]
	if kind%5 == 0 {
		return 0, false
	}
	return int64(kind*8 + g.Intn(kind%5)), true
}

func (g *grower) reckon() {
	if g.depth > 1 && g.Intn(4) > 0 {
		g.lay([]int{code.Add, code.Sub, code.Mul, code.Div, code.Rem, code.Eq, code.Ne, code.Lt, code.Le, code.Gt, code.Ge, code.Input, code.Min, code.Max}[g.Intn(14)], 0)
		return
	}
	g.lay([]int{code.Neg, code.Not, code.Rand, code.Abs}[g.Intn(4)], 0)
}

// drop takes a number from the stack, and most often keeps it somewhere.
func (g *grower) drop() {
	if g.system != nil {
		if a, ok := g.field(g.system.Writes); ok && g.Intn(2) == 0 {
			g.lay(code.Put, a)
			return
		}
	}
	if g.locals > 0 && g.Intn(4) > 0 {
		g.lay(code.Store, int64(g.Intn(g.locals)))
		return
	}
	g.lay(code.Drop, 0)
}

func (g *grower) call() {
	f := g.callable + g.Intn(len(g.funcs)-g.callable)
	for range g.funcs[f].Params {
		g.value()
	}
	g.lay(code.Call, int64(f))
}

// branch lays down two ways, one of which is gone.
func (g *grower) branch() {
	g.nested++
	g.value()
	other := g.leap(code.Zero)
	g.pieces()
	end := g.leap(code.Jump)
	g.land(other)
	if g.Intn(2) == 0 {
		g.pieces()
	}
	g.land(end)
	g.nested--
}

// loop lays down turns that a local counts down; what is done in them may write into it.
func (g *grower) loop() {
	if g.locals == 0 {
		return
	}
	g.nested++
	count := int64(g.Intn(g.locals))
	g.lay(code.Push, int64(g.Intn(6)))
	g.lay(code.Store, count)
	begin := int64(len(g.list))
	g.lay(code.Load, count)
	end := g.leap(code.Zero)
	if !g.stepless {
		g.lay(code.Step, 0)
	}
	g.pieces()
	g.lay(code.Load, count)
	g.lay(code.Push, 1)
	g.lay(code.Sub, 0)
	g.lay(code.Store, count)
	g.lay(code.Jump, begin)
	g.land(end)
	g.nested--
}

// tell lays down something that is told, or asked for.
func (g *grower) tell() {
	kind := 1 + g.Intn(12)
	switch g.Intn(6) {
	case 0, 1:
		g.value()
		g.value()
		g.lay(code.Emit, 0)
	case 2:
		g.spawn()
	case 3:
		g.values(kind)
		g.lay(code.Give, int64(kind*8+kind%5))
	case 4:
		g.lay(code.Take, int64(kind))
	case 5:
		g.lay(code.Die, 0)
	}
}

func (g *grower) values(kind int) {
	for range kind % 5 {
		g.value()
	}
}

func (g *grower) spawn() {
	var parts []int
	for range g.Intn(5) {
		parts = append(parts, 1+g.Intn(12))
	}
	if g.Intn(6) == 0 {
		parts = append(parts, slices.Repeat([]int{5}, 8)...)
	}
	for _, kind := range slices.Backward(parts) {
		g.values(kind)
	}
	for _, kind := range parts {
		g.lay(code.Part, int64(kind*8+kind%5))
	}
	g.lay(code.Spawn, 0)
}

// spoil changes one thing of a program.
func spoil(r *rand.Rand, p *api.Program) {
	s := &p.Systems[r.Intn(len(p.Systems))]
	x := &s.Run
	if len(p.Funcs) > 0 && r.Intn(4) == 0 {
		x = &p.Funcs[r.Intn(len(p.Funcs))]
	}
	switch c := r.Intn(20); {
	case c == 0:
		x.Locals = []int{-1, 0, 1, 2, 32, 33, 1 << 40, -1 << 63}[r.Intn(8)]
	case c == 1:
		x.Params = []int{-1, 0, 1, 2, 3, 5, 32, 33, 64, 65, 1 << 40, -1 << 63}[r.Intn(12)]
	case c < 5:
		set := []*[]int{&s.Reads, &s.Writes}[r.Intn(2)]
		*set = slices.Clone(*set)
		for range r.Intn(4) {
			*set = append(*set, r.Intn(31)-15)
		}
		r.Shuffle(len(*set), func(i, k int) { (*set)[i], (*set)[k] = (*set)[k], (*set)[i] })
	case c == 5 && len(p.Funcs) > 0:
		p.Funcs = p.Funcs[:len(p.Funcs)-1]
	case c == 6:
		x.Code = slices.Repeat(x.Code, 2)
	case c == 7:
		x.Code = slices.Insert(x.Code, 0, api.Instr{Op: code.Call, A: int64(r.Intn(len(p.Funcs) + 1))}, api.Instr{Op: code.Drop})
	default:
		spoilCode(r, x)
	}
}

func spoilCode(r *rand.Rand, x *api.Routine) {
	if len(x.Code) == 0 {
		return
	}
	at := r.Intn(len(x.Code))
	switch r.Intn(8) {
	case 0:
		x.Code[at] = api.Instr{Op: code.Jump, A: int64(r.Intn(len(x.Code)+3) - 1)}
	case 1:
		x.Code = slices.Delete(x.Code, at, at+1)
	case 2:
		x.Code = slices.Insert(x.Code, at, anyInstr(r, len(x.Code)))
	case 3:
		x.Code[at].A += int64(r.Intn(5) - 2)
	case 4:
		x.Code[at].Op += r.Intn(5) - 2
	case 5:
		other := r.Intn(len(x.Code))
		x.Code[at], x.Code[other] = x.Code[other], x.Code[at]
	case 6:
		x.Code = x.Code[:at]
	case 7:
		x.Code[at].A = someNumber(r)
	}
}

// anyInstr is any instruction, of a routine of this length.
func anyInstr(r *rand.Rand, size int) api.Instr {
	i := api.Instr{Op: 1 + r.Intn(39)}
	switch {
	case r.Intn(60) == 0:
		i.Op = r.Intn(60) - 10
	case r.Intn(4) == 0:
		i.Op = code.Push
	}
	switch i.Op {
	case code.Push:
		i.A = someNumber(r)
	case code.Jump, code.Zero:
		i.A = int64(r.Intn(size+1) - r.Intn(50)/49)
	case code.Load, code.Store, code.Call:
		i.A = int64(r.Intn(3))
	case code.Field, code.Put, code.Part, code.Give:
		i.A = int64(r.Intn(20*8) - r.Intn(20))
		if r.Intn(3) > 0 {
			i.A = int64((1+r.Intn(4))*8 + r.Intn(3))
		}
	case code.Take, code.Has:
		i.A = int64(r.Intn(13)) + int64(r.Intn(20)/19)
	default:
		i.A = int64(r.Intn(10) / 9)
	}
	return i
}

// anyProgram has code that is left to chance.
func anyProgram(r *rand.Rand) api.Program {
	routine := func() api.Routine {
		x := api.Routine{Params: r.Intn(4) - 1, Locals: r.Intn(5) - 1}
		size := r.Intn(25)
		for range r.Intn(6) {
			x.Code = append(x.Code, api.Instr{Op: code.Push, A: someNumber(r)})
		}
		for range size {
			x.Code = append(x.Code, anyInstr(r, size))
		}
		return x
	}
	var p api.Program
	for range 1 + r.Intn(2) {
		p.Systems = append(p.Systems, api.System{Reads: r.Perm(5), Writes: r.Perm(6)[:3], Run: routine()})
	}
	for range r.Intn(4) {
		p.Funcs = append(p.Funcs, routine())
	}
	return p
}

// someEnv gives an entity that has most kinds, most often with right values.
func someEnv(r *rand.Rand) api.Env {
	e := api.Env{Frame: r.Intn(8) - 1, Seed: r.Int63n(4) - 1, System: r.Intn(3), Row: api.Row{E: api.Entity{Index: r.Intn(6) - 1, Gen: r.Intn(3)}}}
	for range r.Intn(8) {
		e.Inputs = append(e.Inputs, api.Input{Player: r.Intn(4) - 1, Key: r.Intn(4) - 1, Value: someNumber(r)})
	}
	lacks := r.Intn(3) == 0
	for k := 1; k <= 12; k++ {
		if lacks && r.Intn(6) == 0 {
			continue
		}
		count := k % 5
		if lacks && r.Intn(10) == 0 {
			count = r.Intn(10)
		}
		e.Row.Parts = append(e.Row.Parts, somePart(r, k, count))
	}
	for range r.Intn(4) {
		e.Row.Parts = append(e.Row.Parts, somePart(r, r.Intn(31)-15, r.Intn(10)))
	}
	if lacks && r.Intn(2) == 0 {
		r.Shuffle(len(e.Row.Parts), func(i, k int) { e.Row.Parts[i], e.Row.Parts[k] = e.Row.Parts[k], e.Row.Parts[i] })
	}
	return e
}

func somePart(r *rand.Rand, kind, count int) api.Part {
	p := api.Part{Kind: kind}
	for range count {
		p.Values = append(p.Values, someNumber(r))
	}
	return p
}
