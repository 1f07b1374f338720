package journal

import "hindcast/api"

// frameBytes gives the data of a frame's record; false, if they are too long, or one of its rows is.
func frameBytes(t api.Tick, picks []int) ([]byte, bool) {
	w := &writer{}
	w.signed(t.Seed)
	putAll(w, t.Inputs, w.input)
	putAll(w, t.Asks, w.ask)
	putAll(w, picks, w.int)
	return w.bytes, !w.tooLong
}

// readFrame reads a tick and picks; false, if data are no frame.
func readFrame(data []byte) (api.Tick, []int, bool) {
	r := &reader{rest: data}
	t := api.Tick{Seed: r.signed(), Inputs: getAll(r, r.input), Asks: getAll(r, r.ask)}
	picks := getAll(r, r.int)
	if r.wrong || len(r.rest) > 0 {
		return api.Tick{}, nil, false
	}
	return t, picks, true
}

func (w *writer) input(i api.Input) {
	w.int(i.Player)
	w.int(i.Key)
	w.signed(i.Value)
}

func (r *reader) input() api.Input {
	return api.Input{Player: r.int(), Key: r.int(), Value: r.signed()}
}

func (w *writer) ask(c api.Command) {
	w.int(c.Op)
	w.int(c.E.Index)
	w.int(c.E.Gen)
	w.int(c.Kind)
	w.row(c.Values)
	putAll(w, c.Parts, w.part)
}

func (r *reader) ask() api.Command {
	return api.Command{
		Op:     r.int(),
		E:      api.Entity{Index: r.int(), Gen: r.int()},
		Kind:   r.int(),
		Values: r.row(),
		Parts:  getAll(r, r.part),
	}
}

func (w *writer) part(p api.Part) {
	w.int(p.Kind)
	w.row(p.Values)
}

func (r *reader) part() api.Part {
	return api.Part{Kind: r.int(), Values: r.row()}
}
