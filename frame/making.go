package frame

import (
	"slices"

	"hindcast/api"
	"hindcast/buffer"
	"hindcast/world"
)

// making is a frame that is being made.
type making struct {
	program  api.Program
	env      api.Env      // what the frame's runs may ask, but for their systems and rows
	world    *world.World // the next one, as far as it has come
	commands *buffer.Buffer
	told     [][]api.Event // by systems: for they need not run in the order of their numbers
	failed   [][]api.Event // likewise
	report   api.Report
}

// begin makes a world like the one ahead, and does the asks (F4).
func (g *Game) begin(w *world.World, frame int, t api.Tick) *making {
	m := &making{
		program:  g.program,
		env:      api.Env{Frame: frame, Seed: t.Seed, Inputs: t.Inputs},
		world:    w.Clone(),
		commands: buffer.New(),
		told:     make([][]api.Event, len(g.program.Systems)),
		failed:   make([][]api.Event, len(g.program.Systems)),
	}
	for _, ask := range t.Asks {
		one := buffer.New() // of its own, so that they are done in their order, and of long lists only one is held twice
		one.Put(0, api.Entity{}, ask)
		m.apply(one)
	}
	return m
}

// runAll lets systems run that do not conflict, for all that they are meant for (F5). None of these runs sees what another one writes, so all of it may be set when they have ended.
func (m *making) runAll(systems []int, workers int) {
	runs := m.runsOf(systems)
	for i, o := range m.outcomes(runs, workers) {
		m.take(runs[i], o)
	}
}

// take does what a run wants, or tells why it was cut off.
func (m *making) take(r run, o api.Outcome) {
	if o.Err != api.OK {
		m.failed[r.system] = append(m.failed[r.system], api.Event{System: r.system, E: r.row.E, Code: int64(o.Err), Value: int64(o.Steps)})
		return
	}
	for _, p := range o.Values {
		m.world.Set(r.row.E, p)
	}
	for _, c := range o.Commands {
		m.commands.Put(r.system, r.row.E, c)
	}
	m.told[r.system] = append(m.told[r.system], o.Events...)
}

// end does the commands, and puts the report together (F6).
func (m *making) end() {
	m.apply(m.commands)
	events := slices.Concat(m.told...)
	m.report.Events = slices.Clone(events[:min(len(events), api.MaxEvents)]) // so that the others' memory is let go
	m.report.Failed = slices.Concat(m.failed...)
}

// apply does commands, and reports who was made, and how many did not go.
func (m *making) apply(b *buffer.Buffer) {
	spawned, refused := b.Apply(m.world)
	m.report.Spawned = append(m.report.Spawned, spawned...)
	m.report.Refused += refused
}
