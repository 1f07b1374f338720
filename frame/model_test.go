package frame_test

import (
	"cmp"
	"fmt"
	"maps"
	"math/rand"
	"slices"
	"testing"

	"hindcast/api"
	"hindcast/check"
	"hindcast/compile"
	"hindcast/frame"
	"hindcast/machine"
	"hindcast/pack"
	"hindcast/syntax"
	"hindcast/walk"
	"hindcast/world"
)

// body is what stands under a number that was given: somebody, or nobody any more.
type body struct {
	gen   int
	lives bool
	parts map[int][]int64
}

// land is a world, as the chapters' words say it.
type land struct {
	kinds  []api.Kind
	bodies []body
	free   []int
}

// landOf reads a world.
func landOf(w *world.World) *land {
	l := &land{kinds: w.Kinds()}
	b := w.Snapshot()
	gens, size := pack.GetRow(b, api.MaxEntities)
	free, _ := pack.GetRow(b[size:], api.MaxEntities)
	for _, gen := range gens {
		l.bodies = append(l.bodies, body{gen: int(gen)})
	}
	for _, index := range free {
		l.free = append(l.free, int(index))
	}
	for _, row := range w.Rows() {
		parts := map[int][]int64{}
		for _, part := range row.Parts {
			parts[part.Kind] = part.Values
		}
		l.bodies[row.E.Index] = body{row.E.Gen, true, parts}
	}
	return l
}

// snapshot writes it as chapter 6 says.
func (l *land) snapshot() string {
	var gens, free []int64
	for _, b := range l.bodies {
		gens = append(gens, int64(b.gen))
	}
	for _, index := range l.free {
		free = append(free, int64(index))
	}
	out := pack.PutRow(pack.PutRow(nil, gens), free)
	for _, b := range l.bodies {
		if !b.lives {
			continue
		}
		set := 0
		for kind := range b.parts {
			set += 1 << kind
		}
		out = pack.Put(out, uint64(set))
		for _, kind := range slices.Sorted(maps.Keys(b.parts)) {
			for _, x := range b.parts[kind] {
				out = pack.PutInt(out, x)
			}
		}
	}
	return string(out)
}

func (l *land) lives(who api.Entity) bool {
	return who.Index >= 0 && who.Index < len(l.bodies) && l.bodies[who.Index].lives && l.bodies[who.Index].gen == who.Gen
}

// goes: the kind is one, and has as many fields.
func (l *land) goes(kind int, values []int64) bool {
	return kind >= 1 && kind <= len(l.kinds) && len(values) == len(l.kinds[kind-1].Fields)
}

// do does a command; refused, if it does not go; who was made, if somebody was.
func (l *land) do(c api.Command) (made []api.Entity, refused int) {
	if c.Op == api.OpSpawn {
		return l.spawn(c.Parts)
	}
	if !l.lives(c.E) {
		return nil, 1
	}
	b := &l.bodies[c.E.Index]
	_, has := b.parts[c.Kind]
	switch {
	case c.Op == api.OpDespawn:
		*b = body{gen: b.gen}
		if b.gen == api.MaxGen {
			b.gen++
		} else {
			l.free = append(l.free, c.E.Index)
		}
	case c.Op == api.OpAdd && !has && l.goes(c.Kind, c.Values):
		b.parts[c.Kind] = slices.Clone(c.Values)
	case c.Op == api.OpRemove && has:
		delete(b.parts, c.Kind)
	default:
		return nil, 1
	}
	return nil, 0
}

func (l *land) spawn(parts []api.Part) (made []api.Entity, refused int) {
	own := map[int][]int64{}
	for _, part := range parts {
		if _, has := own[part.Kind]; has || !l.goes(part.Kind, part.Values) {
			return nil, 1
		}
		own[part.Kind] = slices.Clone(part.Values)
	}
	index := len(l.bodies)
	switch {
	case len(l.free) > 0:
		index, l.free = l.free[0], l.free[1:]
	case index == api.MaxEntities:
		return nil, 1
	default:
		l.bodies = append(l.bodies, body{})
	}
	l.bodies[index] = body{l.bodies[index].gen + 1, true, own}
	return []api.Entity{{Index: index, Gen: l.bodies[index].gen}}, 0
}

func (l *land) row(index int) api.Row {
	row := api.Row{E: api.Entity{Index: index, Gen: l.bodies[index].gen}}
	for _, kind := range slices.Sorted(maps.Keys(l.bodies[index].parts)) {
		row.Parts = append(row.Parts, api.Part{Kind: kind, Values: slices.Clone(l.bodies[index].parts[kind])})
	}
	return row
}

// rules are a game, as the chapter's words say it; runs are done by run.
type rules struct {
	systems []api.System
	run     func(system int, e api.Env) api.Outcome
}

// turn is where a run's events and commands stand in the report, and at the frame's end.
type turn struct{ system, index int }

// step changes the land to the next one, with the systems in this order, and the entities of each in an order that is left to chance.
func (g rules) step(l *land, number int, tick api.Tick, order []int, r *rand.Rand) (report api.Report) {
	do := func(c api.Command) {
		made, refused := l.do(c)
		report.Spawned = append(report.Spawned, made...)
		report.Refused += refused
	}
	for _, ask := range tick.Asks {
		do(ask)
	}
	outcomes := map[turn]api.Outcome{}
	whos := map[turn]api.Entity{}
	for _, system := range order {
		for _, index := range r.Perm(len(l.bodies)) {
			if !l.bodies[index].lives || !meant(g.systems[system], l.bodies[index].parts) {
				continue
			}
			row := l.row(index)
			o := g.run(system, api.Env{Frame: number, Seed: tick.Seed, System: system, Inputs: tick.Inputs, Row: row})
			for _, part := range o.Values {
				l.bodies[index].parts[part.Kind] = slices.Clone(part.Values)
			}
			outcomes[turn{system, index}], whos[turn{system, index}] = o, row.E
		}
	}
	turns := slices.SortedFunc(maps.Keys(outcomes), func(a, b turn) int {
		return cmp.Or(cmp.Compare(a.system, b.system), cmp.Compare(a.index, b.index))
	})
	commands := 0
	for _, own := range turns {
		o := outcomes[own]
		if o.Err != api.OK {
			report.Failed = append(report.Failed, api.Event{System: own.system, E: whos[own], Code: int64(o.Err), Value: int64(o.Steps)})
		}
		for _, event := range o.Events {
			if len(report.Events) < 2000 {
				report.Events = append(report.Events, event)
			}
		}
		for _, c := range o.Commands {
			if commands++; commands > 2000 {
				report.Refused++
				continue
			}
			do(c)
		}
	}
	return report
}

func meant(s api.System, parts map[int][]int64) bool {
	for _, kind := range slices.Concat(s.With, s.Reads, s.Writes) {
		if _, has := parts[kind]; !has {
			return false
		}
	}
	for _, kind := range s.Without {
		if _, has := parts[kind]; has {
			return false
		}
	}
	return true
}

// conflict: one of them writes a kind that the other one reads or writes.
func (g rules) conflict(a, b int) bool {
	meets := func(one, other []int) bool {
		return slices.ContainsFunc(one, func(kind int) bool { return slices.Contains(other, kind) })
	}
	x, y := g.systems[a], g.systems[b]
	return meets(x.Writes, y.Writes) || meets(x.Writes, y.Reads) || meets(x.Reads, y.Writes)
}

// stages: one more than the greatest of those ahead that conflict.
func (g rules) stages() [][]int {
	own := make([]int, len(g.systems))
	var stages [][]int
	for a := range g.systems {
		for b := range a {
			if g.conflict(a, b) {
				own[a] = max(own[a], own[b]+1)
			}
		}
		for len(stages) <= own[a] {
			stages = append(stages, nil)
		}
		stages[own[a]] = append(stages[own[a]], a)
	}
	return stages
}

// someOrder is any legal order: each time one comes that no other one must stand ahead of.
func (g rules) someOrder(r *rand.Rand) []int {
	var order []int
	for len(order) < len(g.systems) {
		next := r.Intn(len(g.systems))
		late := slices.Contains(order, next)
		for ahead := range next {
			late = late || g.conflict(ahead, next) && !slices.Contains(order, ahead)
		}
		if !late {
			order = append(order, next)
		}
	}
	return order
}

// pick tells whether picks go.
func (g rules) pick(picks []int) api.Errno {
	if len(picks) > 16 {
		return api.ErrArg
	}
	if len(picks) != 0 && len(picks) != len(g.systems) {
		return api.ErrPick
	}
	for _, stage := range g.stages() {
		for left := len(stage); left > 0 && len(picks) > 0; left-- {
			if picks[0] < 0 || picks[0] >= left {
				return api.ErrPick
			}
			picks = picks[1:]
		}
	}
	return api.OK
}

// grown is a game that is left to chance, and its rules, by its tree.
func grown(t testing.TB, r *rand.Rand, most int) (*frame.Game, rules, string) {
	for {
		kinds := someKinds(r)
		source := someSource(r, kinds, most)
		tree, err := syntax.Parse(source)
		if err != nil {
			t.Fatalf("the test's own source %s: %v", source, err)
		}
		c, err := check.Check(tree, kinds)
		if err != nil {
			t.Fatalf("the test's own source %s: %v", source, err)
		}
		program, bad := compile.Compile(c)
		if bad != api.OK { // too long
			continue
		}
		run := func(system int, e api.Env) api.Outcome { return walk.Run(c, system, e) }
		return newGame(t, kinds, program), rules{program.Systems, run}, source
	}
}

// compare plays a frame by the game and by its rules; nil, if picks do not go.
func compare(t testing.TB, r *rand.Rand, g *frame.Game, m rules, source string, w *world.World, number int, tick api.Tick, seen map[string]int) *world.World {
	t.Helper()
	l := landOf(w)
	was := l.snapshot()
	if was != string(w.Snapshot()) {
		t.Fatalf("the test's own reading of a world: %s", worldTold(w))
	}
	order := m.someOrder(r)
	want := m.step(l, number, tick, order, r)
	picks := somePicks(r, m.stages())
	workers := r.Intn(20) - 1
	one, first, bad := g.Step(w, number, tick, picks)
	if bad != m.pick(picks) || (one == nil) != (bad != api.OK) {
		t.Fatalf("F3: %s\nthe picks %v: %v, want %v", source, picks, bad, m.pick(picks))
	}
	seen[fmt.Sprint("picks ", bad)]++
	other, second, bad := g.StepWith(w, number, tick, workers)
	if bad != api.OK {
		t.Fatalf("F7: %s\n%d workers: %v", source, workers, bad)
	}
	if one == nil {
		one, first = other, second
	}
	for i, next := range []*world.World{one, other} {
		if got := string(next.Snapshot()); got != l.snapshot() {
			t.Fatalf("P8: %s\nfrom %s\nby %v\nby %s: %s\nwant %v", source, worldTold(w), tick, []string{fmt.Sprint(picks), fmt.Sprint(workers, " workers")}[i], worldTold(next), l)
		}
		if got := reportTold([]api.Report{first, second}[i]); got != reportTold(want) {
			t.Fatalf("P8: %s\nfrom %s\nby %v\nby %s: %s\nwant %s, as by %v", source, worldTold(w), tick, []string{fmt.Sprint(picks), fmt.Sprint(workers, " workers")}[i], got, reportTold(want), order)
		}
	}
	if string(w.Snapshot()) != was {
		t.Fatalf("F3: the world that was handed in has changed")
	}
	count(seen, want, order, m.stages())
	return one
}

// count keeps what was seen.
func count(seen map[string]int, report api.Report, order []int, stages [][]int) {
	for what, is := range map[string]bool{
		"events": len(report.Events) > 0, "refused": report.Refused > 0, "spawned": len(report.Spawned) > 0, "another order": !slices.IsSorted(order), "no order by stages": !slices.Equal(order, slices.Concat(stages...)),
		"many events": len(report.Events) > 100, "all numbers": slices.Contains(report.Spawned, api.Entity{Index: 199, Gen: 1}), "given anew": slices.ContainsFunc(report.Spawned, func(who api.Entity) bool { return who.Gen > 1 }),
	} {
		if is {
			seen[what]++
		}
	}
	for _, event := range report.Failed {
		seen[fmt.Sprint("failed ", event.Code)]++
	}
}

// TestModel: F3 to F7, P8, games that are left to chance, frame by frame, against the chapter's words; runs by walking the tree.
func TestModel(t *testing.T) {
	seen := map[string]int{}
	for seed := range 700 {
		r := rand.New(rand.NewSource(int64(seed)))
		g, m, source := grown(t, r, []int{4, 8, 16}[seed%3])
		w := g.Start()
		for number := 1; number <= 6; number++ {
			w = compare(t, r, g, m, source, w, number*(1+r.Intn(2)), someTick(r, g.Kinds()), seen)
		}
	}
	for what, least := range map[string]int{
		"events": 500, "refused": 500, "spawned": 500, "another order": 500, "no order by stages": 500, "many events": 50, "given anew": 50, "all numbers": 5,
		"failed 120": 50, "failed 102": 50, "picks hindcast: error 0": 1000, "picks hindcast: error 180": 100, "picks hindcast: error 1": 50,
	} {
		if seen[what] < least {
			t.Errorf("the test's own games have too few of %q: %v", what, seen)
		}
	}
}

// TestModelOfSets: F5 and P8, systems whose sets are any, also with one kind in several of them, written as instructions.
func TestModelOfSets(t *testing.T) {
	kinds := []api.Kind{{Name: "A", Fields: []string{"x"}}, {Name: "B", Fields: []string{"x"}}, {Name: "C", Fields: []string{"x"}}, {Name: "D", Fields: []string{"x"}}}
	seen := map[string]int{}
	for seed := range 500 {
		r := rand.New(rand.NewSource(int64(seed)))
		set := func(often int) (list []int) {
			for kind := 1; kind <= 4; kind++ {
				if r.Intn(often) == 0 {
					list = append(list, kind)
				}
			}
			return list
		}
		var program api.Program
		for range 1 + r.Intn(6) {
			s := api.System{With: set(4), Without: set(6), Reads: set(4), Writes: set(4)}
			text := "step; me; "
			for _, kind := range slices.Concat(s.Reads, s.Writes) {
				text += fmt.Sprintf("field %d; push 3; mul; add; ", kind*8)
			}
			for _, kind := range s.Writes {
				text += fmt.Sprintf("push %d; add; put %d; field %[2]d; ", kind, kind*8)
			}
			s.Run = routine(text + "tick; emit; " + []string{"", "take 1; ", "push 9; give 25; ", "die; "}[r.Intn(4)] + "stop")
			program.Systems = append(program.Systems, s)
		}
		g := newGame(t, kinds, program)
		m := rules{program.Systems, func(system int, e api.Env) api.Outcome { return machine.Run(program, system, e) }}
		w := g.Start()
		for number := 1; number <= 3; number++ {
			w = compare(t, r, g, m, fmt.Sprint(program.Systems), w, number, someTick(r, kinds), seen)
		}
	}
	if seen["events"] < 500 || seen["no order by stages"] < 200 {
		t.Errorf("the test's own games: %v", seen)
	}
}
