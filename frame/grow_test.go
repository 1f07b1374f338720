package frame_test

import (
	"fmt"
	"math/rand"
	"slices"
	"strings"

	"hindcast/api"
)

// author writes sources that are left to chance.
type author struct {
	*rand.Rand
	kinds         []api.Kind
	reads, writes []int // of the system at hand, kinds that have fields
	funcs         int
	room          int // how many more statements may be written
	nested        int
}

func someKinds(r *rand.Rand) []api.Kind {
	list := make([]api.Kind, 1+r.Intn(12))
	for i := range list {
		list[i] = api.Kind{Name: fmt.Sprint("K", i+1), Fields: []string{"a", "b", "c", "d"}[:r.Intn(5)]}
	}
	return list
}

// someSource has up to so many systems, that want few kinds, so that many entities have them.
func someSource(r *rand.Rand, kinds []api.Kind, most int) string {
	a := &author{Rand: r, kinds: kinds, room: 150, funcs: r.Intn(3)}
	var text strings.Builder
	for i := range a.funcs {
		fmt.Fprintf(&text, "func f%d(n) { if n > %d { return n - %d; } return n * 2 + rand(3); }\n", i, r.Intn(9), r.Intn(9))
	}
	for i := range r.Intn(most + 1) {
		fmt.Fprintf(&text, "system S%d", i)
		a.reads, a.writes = nil, nil
		for at, list := range a.clauses() {
			if len(list) > 0 {
				fmt.Fprint(&text, " ", []string{"with", "without", "reads", "writes"}[at], " ", strings.Join(list, ", "))
			}
		}
		fmt.Fprint(&text, " ", a.block(), "\n")
	}
	return text.String()
}

func (a *author) clauses() [4][]string {
	var clauses [4][]string
	for i, kind := range a.kinds {
		at := a.Intn(10 + len(a.kinds))
		if at > 7 {
			continue
		}
		at = []int{0, 1, 2, 2, 2, 3, 3, 3}[at]
		clauses[at] = append(clauses[at], kind.Name)
		if len(kind.Fields) == 0 || at < 2 {
			continue
		}
		a.reads = append(a.reads, i)
		if at == 3 {
			a.writes = append(a.writes, i)
		}
	}
	return clauses
}

func (a *author) block() string {
	text := "{ "
	a.nested++
	for range 1 + a.Intn(5) {
		if a.room--; a.room > 0 {
			text += a.statement() + " "
		}
	}
	a.nested--
	return text + "}"
}

func (a *author) statement() string {
	kind := a.kinds[a.Intn(len(a.kinds))]
	switch c := a.Intn(20); {
	case c < 6 && len(a.writes) > 0:
		return a.field(a.writes) + " = " + a.number(3) + ";"
	case c < 9:
		return "emit " + a.number(2) + ", " + a.number(2) + ";"
	case c == 9:
		return a.spawn()
	case c == 10:
		return "add " + a.part(kind) + ";"
	case c == 11:
		return "remove " + kind.Name + ";"
	case c == 12 && a.Intn(3) == 0:
		return "die;"
	case c == 13 && a.Intn(4) == 0:
		return "stop;"
	case c < 16 && a.nested < 4:
		return "if " + a.truth() + " " + a.block() + []string{"", " else " + a.block()}[a.Intn(2)]
	case c < 18 && a.nested < 4:
		return "repeat " + a.turns() + " " + a.block()
	}
	return "emit me, tick;"
}

// turns are mostly few.
func (a *author) turns() string {
	switch a.Intn(12) {
	case 0:
		return "3000"
	case 1:
		return "17"
	case 2:
		return a.number(1)
	}
	return fmt.Sprint(a.Intn(4))
}

func (a *author) field(kinds []int) string {
	kind := a.kinds[kinds[a.Intn(len(kinds))]]
	return kind.Name + "." + kind.Fields[a.Intn(len(kind.Fields))]
}

func (a *author) spawn() string {
	var parts []string
	for _, kind := range a.kinds {
		if a.Intn(3) == 0 {
			parts = append(parts, a.part(kind))
		}
	}
	a.Shuffle(len(parts), func(i, k int) { parts[i], parts[k] = parts[k], parts[i] })
	return "spawn " + strings.Join(parts, ", ") + ";"
}

func (a *author) part(kind api.Kind) string {
	var values []string
	for _, field := range kind.Fields {
		if a.Intn(4) > 0 {
			values = append(values, field+": "+a.number(1))
		}
	}
	return kind.Name + "{" + strings.Join(values, ", ") + "}"
}

func (a *author) truth() string {
	if a.Intn(4) == 0 {
		return "has(" + a.kinds[a.Intn(len(a.kinds))].Name + ")"
	}
	return a.number(2) + " " + []string{"==", "!=", "<", "<=", ">", ">="}[a.Intn(6)] + " " + a.number(2)
}

// number writes an expression that is no deeper than this.
func (a *author) number(deep int) string {
	c := a.Intn(14)
	switch {
	case c < 4 && len(a.reads) > 0:
		return a.field(a.reads)
	case c == 4:
		return "tick"
	case c == 5:
		return "me"
	case c == 6 && deep > 0:
		return "rand(" + a.number(deep-1) + ")"
	case c == 7 && deep > 0:
		return "input(" + a.number(0) + ", " + a.number(0) + ")"
	case c == 8 && deep > 0 && a.funcs > 0:
		return fmt.Sprintf("f%d(%s)", a.Intn(a.funcs), a.number(deep-1))
	case c < 12 && deep > 0:
		return "(" + a.number(deep-1) + " " + []string{"+", "-", "*", "/", "%"}[a.Intn(5)] + " " + a.number(deep-1) + ")"
	}
	return fmt.Sprint(a.Intn(6))
}

// someTick mostly has asks that go.
func someTick(r *rand.Rand, kinds []api.Kind) api.Tick {
	tick := api.Tick{Seed: r.Int63n(5) - 2}
	for range r.Intn(5) {
		tick.Inputs = append(tick.Inputs, api.Input{Player: r.Intn(6), Key: r.Intn(6), Value: r.Int63n(20) - 5})
	}
	for range []int{0, 1, 2, 4, 10, 30}[r.Intn(6)] {
		tick.Asks = append(tick.Asks, someAsk(r, kinds))
	}
	return tick
}

func someAsk(r *rand.Rand, kinds []api.Kind) api.Command {
	who := api.Entity{Index: r.Intn(15) - r.Intn(20)/19, Gen: 1 + r.Intn(4)/3 - r.Intn(30)/29}
	switch c := r.Intn(12); {
	case c < 5:
		c := api.Command{Op: api.OpSpawn}
		for _, number := range r.Perm(len(kinds)) {
			if r.Intn(4) > 0 {
				c.Parts = append(c.Parts, somePart(r, kinds, number+1))
			}
		}
		if r.Intn(12) == 0 {
			c.Parts = append(c.Parts, somePart(r, kinds, 1+r.Intn(len(kinds))))
		}
		return c
	case c < 6:
		return despawn(who)
	case c < 9:
		return add(who, somePart(r, kinds, 1+r.Intn(len(kinds))))
	case c < 11:
		return remove(who, r.Intn(len(kinds)+2))
	}
	return api.Command{Op: r.Intn(12) - 4, E: who, Kind: r.Intn(4)}
}

// somePart mostly may stand.
func somePart(r *rand.Rand, kinds []api.Kind, number int) api.Part {
	part := api.Part{Kind: number}
	for range kinds[number-1].Fields {
		part.Values = append(part.Values, r.Int63n(9)-2)
	}
	switch r.Intn(60) {
	case 0:
		part.Kind = []int{0, -1, len(kinds) + 1, 1 << 40}[r.Intn(4)]
	case 1:
		part.Values = append(part.Values, 1)
	}
	return part
}

// somePicks mostly go.
func somePicks(r *rand.Rand, stages [][]int) []int {
	if r.Intn(3) == 0 {
		return nil
	}
	var picks []int
	for _, stage := range stages {
		for left := len(stage); left > 0; left-- {
			picks = append(picks, r.Intn(left))
		}
	}
	switch r.Intn(20) {
	case 0:
		picks = append(picks, 0)
	case 1:
		if len(picks) > 0 {
			picks[r.Intn(len(picks))] += r.Intn(5) - 2
		}
	case 2:
		picks = picks[:r.Intn(len(picks)+1)]
	case 3:
		picks = append(picks, make([]int, 17-min(len(picks), 17))...)
	}
	return slices.Clip(picks)
}
