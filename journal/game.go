package journal

import (
	"slices"

	"hindcast/api"
	"hindcast/code"
	"hindcast/frame"
	"hindcast/history"
)

// gameBytes gives the data of a game's record.
func gameBytes(g *frame.Game, every int) ([]byte, api.Errno) {
	program, bad := code.Encode(g.Program())
	if bad != api.OK {
		return nil, bad
	}
	w := &writer{}
	w.number(every)
	putAll(w, g.Kinds(), w.kind)
	w.add(program)
	return w.bytes, api.OK
}

// historyOf begins a history of a game; false, if data are not that game's.
func historyOf(g *frame.Game, data []byte) (*history.History, bool) {
	r := &reader{rest: data}
	every := r.number(api.MaxFrames)
	kinds := getAll(r, r.kind)
	program := r.program()
	h, bad := history.New(g, every, every)
	right := !r.wrong && bad == api.OK
	return h, right && slices.EqualFunc(kinds, g.Kinds(), sameKind) && sameProgram(program, g.Program())
}

func (w *writer) kind(k api.Kind) {
	w.text(k.Name)
	putAll(w, k.Fields, w.text)
}

func (r *reader) kind() api.Kind {
	return api.Kind{Name: r.text(), Fields: getAll(r, r.text)}
}

func sameKind(a, b api.Kind) bool { return a.Name == b.Name && slices.Equal(a.Fields, b.Fields) }

func sameProgram(a, b api.Program) bool {
	return slices.EqualFunc(a.Systems, b.Systems, sameSystem) && slices.EqualFunc(a.Funcs, b.Funcs, sameRoutine)
}

func sameSystem(a, b api.System) bool {
	return slices.Equal(a.With, b.With) && slices.Equal(a.Without, b.Without) &&
		slices.Equal(a.Reads, b.Reads) && slices.Equal(a.Writes, b.Writes) && sameRoutine(a.Run, b.Run)
}

func sameRoutine(a, b api.Routine) bool {
	return a.Name == b.Name && a.Params == b.Params && a.Locals == b.Locals && slices.Equal(a.Code, b.Code)
}
