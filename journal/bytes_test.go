package journal_test

import (
	"bytes"
	"encoding/binary"
	"encoding/hex"
	"fmt"
	"math"
	"slices"
	"strings"
	"testing"

	"hindcast/api"
	"hindcast/code"
	"hindcast/frame"
	"hindcast/journal"
	rec "hindcast/record"
)

// text is bytes that grow, by the chapter's words; numbers are written by the library's varints.
type text struct{ b []byte }

func (x *text) put(numbers ...int) *text {
	for _, n := range numbers {
		x.b = binary.AppendUvarint(x.b, uint64(n))
	}
	return x
}

func (x *text) putInt(numbers ...int64) *text {
	for _, n := range numbers {
		x.b = binary.AppendVarint(x.b, n)
	}
	return x
}

func (x *text) putText(s string) *text {
	x.put(len(s))
	x.b = append(x.b, s...)
	return x
}

// putRow writes a row in each of the three forms, and takes the first that is shortest.
func (x *text) putRow(l []int64) *text {
	x.put(len(l))
	if len(l) == 0 {
		return x
	}
	plain, steps, runs := &text{[]byte{0}}, &text{[]byte{1}}, &text{}
	count := 0
	for i, n := range l {
		plain.putInt(n)
		if i == 0 {
			steps.putInt(n)
		} else {
			steps.putInt(n - l[i-1])
		}
	}
	for i := 0; i < len(l); {
		length := 1
		for i+length < len(l) && l[i+length] == l[i] {
			length++
		}
		runs.put(length).putInt(l[i])
		count, i = count+1, i+length
	}
	forms := [][]byte{plain.b, steps.b, append((&text{[]byte{2}}).put(count).b, runs.b...)}
	x.b = append(x.b, slices.MinFunc(forms, func(a, b []byte) int { return len(a) - len(b) })...)
	return x
}

// gameData is the data of a game's record by the chapter's words.
func gameData(g *frame.Game, every int) []byte {
	x := (&text{}).put(every, len(g.Kinds()))
	for _, kind := range g.Kinds() {
		x.putText(kind.Name).put(len(kind.Fields))
		for _, field := range kind.Fields {
			x.putText(field)
		}
	}
	program, _ := code.Encode(g.Program())
	return append(x.b, program...)
}

// frameData is the data of a frame's record by the chapter's words.
func frameData(tick api.Tick, picks []int) []byte {
	x := (&text{}).putInt(tick.Seed).put(len(tick.Inputs))
	for _, in := range tick.Inputs {
		x.putInt(int64(in.Player), int64(in.Key), in.Value)
	}
	x.put(len(tick.Asks))
	for _, ask := range tick.Asks {
		x.putInt(int64(ask.Op), int64(ask.E.Index), int64(ask.E.Gen), int64(ask.Kind)).putRow(ask.Values).put(len(ask.Parts))
		for _, part := range ask.Parts {
			x.putInt(int64(part.Kind)).putRow(part.Values)
		}
	}
	x.put(len(picks))
	for _, pick := range picks {
		x.putInt(int64(pick))
	}
	return x.b
}

// looseReader reads what may be a frame without asking whether it is written in its one way.
type looseReader struct {
	b     []byte
	wrong bool
}

func (r *looseReader) get() uint64 {
	n, size := binary.Uvarint(r.b)
	if size <= 0 {
		r.b, r.wrong = nil, true
		return 0
	}
	r.b = r.b[size:]
	return n
}

func (r *looseReader) getInt() int64 {
	n := r.get()
	return int64(n>>1) ^ -int64(n&1)
}

// times calls something so often as is read, as long as nothing is wrong.
func (r *looseReader) times(call func()) {
	n := r.get()
	r.wrong = r.wrong || n > 100000
	for ; n > 0 && !r.wrong; n-- {
		call()
	}
}

func (r *looseReader) getRow() []int64 {
	count := r.get()
	if count == 0 {
		return nil
	}
	if count > 100000 || len(r.b) == 0 {
		r.wrong = true
		return nil
	}
	form := r.b[0]
	r.b = r.b[1:]
	var l []int64
	switch form {
	case 0, 1:
		last := int64(0)
		for uint64(len(l)) < count && !r.wrong {
			n := r.getInt()
			if form == 1 {
				n += last
			}
			l, last = append(l, n), n
		}
	case 2:
		r.times(func() {
			length := r.get()
			n := r.getInt()
			r.wrong = r.wrong || length > count-uint64(len(l))
			if !r.wrong {
				l = append(l, slices.Repeat([]int64{n}, int(length))...)
			}
		})
		r.wrong = r.wrong || uint64(len(l)) != count
	default:
		r.wrong = true
	}
	return l
}

// modelFrame reads data, if they are a frame: what is read is written again, and must be just the same.
func modelFrame(data []byte) (api.Tick, []int, bool) {
	r := &looseReader{b: data}
	tick, picks := api.Tick{Seed: r.getInt()}, []int(nil)
	r.times(func() {
		tick.Inputs = append(tick.Inputs, api.Input{Player: int(r.getInt()), Key: int(r.getInt()), Value: r.getInt()})
	})
	r.times(func() {
		ask := api.Command{Op: int(r.getInt()), E: e(int(r.getInt()), int(r.getInt())), Kind: int(r.getInt()), Values: r.getRow()}
		r.times(func() { ask.Parts = append(ask.Parts, p(int(r.getInt()), r.getRow()...)) })
		tick.Asks = append(tick.Asks, ask)
	})
	r.times(func() { picks = append(picks, int(r.getInt())) })
	return tick, picks, !r.wrong && bytes.Equal(frameData(tick, picks), data)
}

// laid are the records of these data, one behind the other.
func laid(t testing.TB, datas ...[]byte) []byte {
	t.Helper()
	var b []byte
	for _, data := range datas {
		more, bad := rec.Put(b, data)
		if bad != api.OK {
			t.Fatalf("the test's own record of %d bytes: %v", len(data), bad)
		}
		b = more
	}
	return b
}

// TestGameBytes: what stands on the store: the game, byte by byte.
func TestGameBytes(t *testing.T) {
	g := gameOf(t, []api.Kind{{Name: "Pos", Fields: []string{"x", "yy"}}, {Name: "M"}}, "system S with M writes Pos { Pos.x = 1; }")
	s := storeOf(t, nil)
	create(t, g, s, 300)
	want := "ac02" + "02" + "03506f73" + "02" + "0178" + "027979" + "014d" + "00" // 300; two kinds: Pos x yy, M
	program, _ := code.Encode(g.Program())
	data, size := rec.Get(s.Bytes())
	if got := hex.EncodeToString(data); got != want+hex.EncodeToString(program) || size != sizeOf(s) {
		t.Errorf("the game is %s, %d bytes, want %s and the program", got, size, want)
	}
	for _, g := range []*frame.Game{g, game(t, ""), game(t, lively), most(t)} {
		for _, every := range []int{1, 127, 128, 5000} {
			s := storeOf(t, nil)
			create(t, g, s, every)
			if want := laid(t, gameData(g, every)); !bytes.Equal(s.Bytes(), want) {
				t.Errorf("the game, every %d, is % x, want % x", every, s.Bytes(), want)
			}
			j := open(t, g, s)
			record(t, j, 3, 3) // without picks, which not all of these games take
			if want := laid(t, gameData(g, every), frameData(tickOf(3), nil)); !bytes.Equal(s.Bytes(), want) {
				t.Errorf("the game, every %d, and a frame are % x, want % x", every, s.Bytes(), want)
			}
		}
	}
}

// most is a game with the most kinds, fields, letters, systems, functions and instructions that there may be.
func most(t testing.TB) *frame.Game {
	t.Helper()
	name := func(c, i int) string { return strings.Repeat(string(rune('A'+c)), 15) + string(rune('A'+i)) }
	var kinds []api.Kind
	set := []int{1, 2, 3, 4, 5, 6, 7, 8, 9, 10, 11, 12}
	for i := range 12 {
		kinds = append(kinds, api.Kind{Name: name(i, i), Fields: []string{name(i, 0), name(i, 1), name(i, 2), name(i, 3)}})
	}
	pushes := func(n int, end int) []api.Instr {
		l := []api.Instr{{Op: code.Step}}
		for range n {
			l = append(l, api.Instr{Op: code.Push, A: math.MinInt64}, api.Instr{Op: code.Drop})
		}
		return append(l, api.Instr{Op: code.Push, A: math.MaxInt64}, api.Instr{Op: end})
	}
	var p api.Program
	for i := range 16 {
		p.Systems = append(p.Systems, api.System{With: set, Reads: set, Writes: set, Run: api.Routine{Name: name(20, i), Locals: 32, Code: append(pushes(28, code.Drop), api.Instr{Op: code.Stop})}})
		p.Funcs = append(p.Funcs, api.Routine{Name: name(21, i), Params: 4, Locals: 32, Code: pushes(31, code.Ret)})
	}
	left := 2000
	for i := range 16 {
		left -= len(p.Systems[i].Run.Code) + len(p.Funcs[i].Code)
	}
	last := &p.Systems[15].Run
	last.Code = append(slices.Repeat([]api.Instr{{Op: code.Step}}, left), last.Code...)
	g, bad := frame.New(kinds, p)
	if bad != api.OK {
		t.Fatalf("the test's own game: %v", bad)
	}
	return g
}

// TestFrameBytes: what stands on the store: a frame, byte by byte.
func TestFrameBytes(t *testing.T) {
	s := storeOf(t, nil)
	j := create(t, game(t, ""), s, 3)
	size := sizeOf(s)
	tick := api.Tick{
		Seed:   -1,
		Inputs: []api.Input{{Player: 1, Key: -2, Value: 64}},
		Asks: []api.Command{
			{Op: 1, E: e(2, 3), Kind: 4, Values: []int64{5, 5, 5, 5}, Parts: []api.Part{p(6), p(-7, 1000, 1001, 1002)}},
			{},
		},
	}
	if _, bad := j.Record(tick, nil); bad != api.OK {
		t.Fatalf("J3: %v", bad)
	}
	want := "01" + "01" + "02" + "03" + "8001" + // the seed; an input
		"02" + "02" + "04" + "06" + "08" + "0402" + "01040a" + "02" + "0c" + "00" + "0d" + "0301" + "d00f0202" + // two asks: the first
		"00000000" + "00" + "00" + // the second
		"00" // no picks
	data, whole := rec.Get(s.Bytes()[size:])
	if got := hex.EncodeToString(data); got != want || whole != sizeOf(s)-size {
		t.Errorf("a frame is %s, %d bytes, want %s", got, whole, want)
	}
	k, z := grown(t, 3, 0, 0)
	for i, tick := range extremes() {
		at := sizeOf(z)
		picks := picksOf(i)
		if _, bad := k.Record(tick, picks); bad != api.OK {
			t.Fatalf("J3: %v", bad)
		}
		if got, want := z.Bytes()[at:], laid(t, frameData(tick, picks)); !bytes.Equal(got, want) {
			t.Errorf("the frame %v, %v is % x, want % x", tick, picks, got, want)
		}
	}
	h := open(t, game(t, lively), z).History()
	for i, tick := range extremes() {
		if got, picks, bad := h.Tick(i + 1); bad != api.OK || fmt.Sprint(got, picks) != fmt.Sprint(tick, picksOf(i)) {
			t.Errorf("J2: the frame %v, %v comes up as %v, %v", tick, picksOf(i), got, picks)
		}
	}
}

// extremes are ticks with the greatest and least of all.
func extremes() []api.Tick {
	many := api.Tick{Inputs: make([]api.Input, 32), Asks: make([]api.Command, 200)}
	return []api.Tick{
		{},
		{Seed: math.MinInt64},
		{Seed: math.MaxInt64, Inputs: []api.Input{}, Asks: []api.Command{}},
		{Inputs: []api.Input{{Player: math.MinInt, Key: math.MaxInt, Value: math.MinInt64}, {Player: math.MaxInt, Key: math.MinInt, Value: math.MaxInt64}}},
		{Asks: []api.Command{{Op: math.MinInt, E: e(math.MaxInt, math.MinInt), Kind: math.MaxInt, Values: []int64{}, Parts: []api.Part{}}}},
		{Asks: []api.Command{{Op: math.MaxInt, E: e(math.MinInt, math.MaxInt), Kind: math.MinInt, Values: []int64{math.MinInt64, math.MaxInt64}, Parts: []api.Part{p(math.MinInt, math.MaxInt64), p(math.MaxInt)}}}},
		{Asks: []api.Command{spawn(p(1, 1, 2), p(2), p(3, 4)), spawn(), spawn(p(9)), {Op: api.OpRemove, E: e(0, 1), Kind: 1}, {Op: 9}}},
		many,
	}
}

// TestOpenGameBytes: J2, data are the game's only if they are just what is written of it, with an every that there may be; also where the program is one of nothing, which is what of bytes that are no program is left.
func TestOpenGameBytes(t *testing.T) {
	for _, source := range []string{lively, ""} {
		wantGameBytes(t, game(t, source))
	}
}

// wantGameBytes opens what is nearly the game, and what is.
func wantGameBytes(t *testing.T, g *frame.Game) {
	t.Helper()
	right := gameData(g, 3)
	for _, c := range []struct {
		what string
		b    []byte
	}{
		{"a byte more", append(slices.Clone(right), 0)},
		{"two bytes more", append(slices.Clone(right), 0, 0)},
		{"every 0", gameData(g, 0)},
		{"every 5001", gameData(g, 5001)},
		{"the greatest every", gameData(g, math.MaxInt)},
		{"an every that no int holds", append(binary.AppendUvarint(nil, math.MaxUint64), right[1:]...)},
		{"an every that wraps to one that there may be", append(binary.AppendUvarint(nil, 1<<63+3), right[1:]...)},
		{"an every in two bytes", append([]byte{0x83, 0}, right[1:]...)},
		{"a number of kinds in two bytes", append([]byte{3, 0x83, 0}, right[2:]...)},
		{"more kinds", append([]byte{3, 4}, right[2:]...)},
		{"fewer kinds", append([]byte{3, 2}, right[2:]...)},
		{"very many kinds", append(binary.AppendUvarint([]byte{3}, math.MaxUint64), right[2:]...)},
		{"no program", right[:len(right)-len(programOf(g))]},
		{"a frame", frameData(tickOf(1), nil)},
		{"the byte 0", []byte{0}},
	} {
		if bytes.Equal(c.b, right) {
			t.Fatalf("the test's own bytes: %s", c.what)
		}
		s := storeOf(t, laid(t, c.b, frameData(tickOf(1), nil)))
		was := told(s)
		if j, bad := journal.Open(g, s); j != nil || bad != api.ErrJournal || told(s) != was {
			t.Errorf("J2: %s: %v", c.what, bad)
		}
	}
	for n := 1; n < len(right); n++ {
		if j, bad := journal.Open(g, storeOf(t, laid(t, right[:n]))); j != nil || bad != api.ErrJournal {
			t.Errorf("J2: a record of the first %d bytes of the game's: %v", n, bad)
		}
	}
	for i := range right {
		for bit := range 8 {
			b := slices.Clone(right)
			b[i] ^= 1 << bit
			every, _ := binary.Uvarint(b)
			j, bad := journal.Open(g, storeOf(t, laid(t, b)))
			if isEvery := i == 0 && every >= 1 && every <= 127; isEvery != (bad == api.OK) || !isEvery && (j != nil || bad != api.ErrJournal) {
				t.Errorf("J2: a record of the game's, of which the bit %d of byte %d is turned: %v", bit, i, bad)
			}
		}
	}
	for _, every := range []int{1, 2, 5000} {
		s := storeOf(t, laid(t, gameData(g, every), frameData(tickOf(1), nil), frameData(tickOf(2), nil), frameData(tickOf(3), nil)))
		wantAlike(t, "J2: laid by hand", open(t, g, s).History(), g, every)
	}
}

func programOf(g *frame.Game) []byte {
	b, _ := code.Encode(g.Program())
	return b
}

// wantTaken opens a game, the frames 1 and 2, some data, and the frame 3: the data come up, and that frame with them, or nothing behind the second frame.
func wantTaken(t *testing.T, g *frame.Game, what string, data []byte, taken bool) {
	t.Helper()
	two := [][]byte{gameData(g, 3), frameData(tickOf(1), nil), frameData(tickOf(2), nil)}
	all := append(slices.Clip(two), data, frameData(tickOf(3), nil))
	want, frames := laid(t, two...), 2
	if taken {
		want, frames = laid(t, all...), 4
	}
	s := storeOf(t, nil)
	s.Append(laid(t, all...))
	j := open(t, g, s)
	size, lasts, _ := s.State()
	if !bytes.Equal(s.Bytes(), want) || size != lasts || j.History().Len() != frames || j.Lasts() != frames {
		t.Fatalf("J2: %s: %d frames, %d bytes, of which %d last, want %d frames, %d bytes", what, j.History().Len(), size, lasts, frames, len(want))
	}
}

// TestOpenFrameBytes: J2, data are a frame only if they are just what is written of one; and history.Record must take it.
func TestOpenFrameBytes(t *testing.T) {
	g := game(t, lively)
	seed := func() *text { return (&text{}).putInt(0) }
	ask := func() *text { return seed().put(0, 1).putInt(1, 0, 0, 0) } // whose row and parts are missing
	for _, c := range []struct {
		what  string
		b     []byte
		taken bool
	}{
		{"nothing but four noughts", []byte{0, 0, 0, 0}, true},
		{"three noughts", []byte{0, 0, 0}, false},
		{"five noughts", []byte{0, 0, 0, 0, 0}, false},
		{"a seed in two bytes", []byte{0x80, 0, 0, 0, 0}, false},
		{"a seed of 65 bits", append([]byte{0xff, 0xff, 0xff, 0xff, 0xff, 0xff, 0xff, 0xff, 0xff, 2}, 0, 0, 0), false},
		{"the game", gameData(g, 3), false},
		{"32 inputs", frameData(api.Tick{Inputs: make([]api.Input, 32)}, nil), true},
		{"33 inputs", frameData(api.Tick{Inputs: make([]api.Input, 33)}, nil), false},
		{"200 asks", frameData(api.Tick{Asks: make([]api.Command, 200)}, nil), true},
		{"201 asks", frameData(api.Tick{Asks: make([]api.Command, 201)}, nil), false},
		{"three picks", frameData(api.Tick{}, []int{1, 0, 0}), true},
		{"two picks", frameData(api.Tick{}, []int{1, 0}), false},
		{"17 picks", frameData(api.Tick{}, make([]int, 17)), false},
		{"picks that do not go", frameData(api.Tick{}, []int{0, 0, 1}), false},
		{"very many inputs", seed().put(math.MaxInt).b, false},
		{"more inputs than bytes", seed().put(100000).b, false},
		{"very many asks", seed().put(0, math.MaxInt).b, false},
		{"very many parts", ask().put(0, math.MaxInt).b, false},
		{"very many picks", seed().put(0, 0, math.MaxInt).b, false},
		{"more picks than an int holds", append([]byte{0, 0, 0}, binary.AppendUvarint(nil, math.MaxUint64)...), false},
		{"a row of 100000", ask().putRow(make([]int64, 100000)).put(0, 0).b, true},
		{"a row of 100001", ask().putRow(make([]int64, 100001)).put(0, 0).b, false},
		{"a part's row of 100000", ask().put(0, 1).putInt(1).putRow(make([]int64, 100000)).put(0).b, true},
		{"a part's row of 100001", ask().put(0, 1).putInt(1).putRow(make([]int64, 100001)).put(0).b, false},
		{"a row that is not the shortest", append(ask().b, 4, 0, 10, 10, 10, 10, 0, 0), false},
		{"a row that is", append(ask().b, 4, 2, 1, 4, 10, 0, 0), true},
		{"a part's row that is not the shortest", append(ask().put(0, 1).putInt(1).b, 4, 0, 10, 10, 10, 10, 0), false},
		{"a row of a form that there is not", append(ask().b, 1, 3, 0, 0, 0), false},
	} {
		if _, _, ok := modelFrame(c.b); !ok && c.taken {
			t.Fatalf("the test's own data: %s", c.what)
		}
		wantTaken(t, g, c.what, c.b, c.taken)
	}
	right := frameData(tickOf(9), picksOf(1))
	wantTaken(t, g, "a frame", right, true)
	for n := 1; n < len(right); n++ {
		wantTaken(t, g, fmt.Sprint("the first bytes of a frame: ", n), right[:n], false)
	}
	for i := range len(right) + 1 {
		for _, more := range []byte{0, 1, 0x80, 0xff} {
			b := slices.Insert(slices.Clone(right), i, more)
			wantTaken(t, g, fmt.Sprintf("a byte %x more at %d", more, i), b, takes(t, g, b))
		}
	}
	for i := range right {
		for bit := range 8 {
			b := slices.Clone(right)
			b[i] ^= 1 << bit
			wantTaken(t, g, fmt.Sprintf("the bit %d of byte %d turned", bit, i), b, takes(t, g, b))
		}
	}
}

// takes asks whether data are a frame that may be the third one.
func takes(t *testing.T, g *frame.Game, data []byte) bool {
	t.Helper()
	tick, picks, ok := modelFrame(data)
	if !ok {
		return false
	}
	_, _, bad := g.Step(g.Start(), 3, tick, picks)
	return bad == api.OK
}

// TestOpenShortData: J2, all data of few bytes, of a few telling ones: those that are a frame are taken, the others are cut off.
func TestOpenShortData(t *testing.T) {
	g := gameOf(t, []api.Kind{{Name: "M"}}, "system S { }")
	first := laid(t, gameData(g, 3))
	seen := 0
	var grow func(b []byte, left int)
	grow = func(b []byte, left int) {
		if len(b) > 0 {
			taken := takes(t, g, b)
			s := storeOf(t, append(slices.Clone(first), laid(t, b)...))
			if j := open(t, g, s); (j.History().Len() == 1) != taken {
				t.Fatalf("J2: the data % x: %d frames", b, j.History().Len())
			}
			if taken {
				seen++
			}
		}
		if left > 0 {
			for _, more := range []byte{0, 1, 2, 0x80} {
				grow(append(slices.Clip(b), more), left-1)
			}
		}
	}
	grow(nil, 7)
	if seen < 20 {
		t.Errorf("the test's own data: only %d were frames", seen)
	}
}
