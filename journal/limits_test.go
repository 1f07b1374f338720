package journal_test

import (
	"bytes"
	"fmt"
	"runtime"
	"slices"
	"testing"

	"hindcast/api"
	"hindcast/journal"
	rec "hindcast/record"
	"hindcast/store"
)

// sized is a tick that is written, without picks, in so many bytes: one ask of parts without values, which the world refuses.
func sized(t testing.TB, size int) api.Tick {
	t.Helper()
	for _, seed := range []int64{0, 64} { // one byte, or two
		for parts := max(0, size/2-8); parts <= size/2; parts++ {
			tick := api.Tick{Seed: seed, Asks: []api.Command{spawn(make([]api.Part, parts)...)}}
			if len(frameData(tick, nil)) == size {
				return tick
			}
		}
	}
	t.Fatalf("the test's own tick of %d bytes", size)
	return api.Tick{}
}

// steep is a row whose numbers have three bytes each, in any form.
func steep(n int) []int64 {
	l := make([]int64, n)
	for i := range l {
		l[i] = int64(i%2*20000 - 10000)
	}
	return l
}

// wantRefused holds that a frame is refused, and that the journal is without it: on the store as it was, in the history as history.Cut makes it.
func wantRefused(t *testing.T, what string, j *journal.Journal, s *store.Store, tick api.Tick, picks []int, want api.Errno) {
	t.Helper()
	frames, lasts := j.History().Len(), j.Lasts()
	wasBytes, was := s.Bytes(), fmt.Sprint(s.State())
	j.History().Seek(frames - 1)
	report, bad := j.Record(tick, picks)
	if bad != want || fmt.Sprint(report) != fmt.Sprint(api.Report{}) {
		t.Fatalf("J3: %s: %v, %v, want %v", what, report, bad, want)
	}
	if is := fmt.Sprint(s.State()); is != was || !bytes.Equal(s.Bytes(), wasBytes) {
		t.Fatalf("J3: %s: the store is another one: %s, want %s", what, is, was)
	}
	if _, at := j.History().Now(); j.History().Len() != frames || at != frames || j.Lasts() != lasts {
		t.Fatalf("J3: %s: %d frames, one is at %d, Lasts %d, want %d and %d", what, j.History().Len(), at, j.Lasts(), frames, lasts)
	}
}

// TestLongRecords: J3, a frame may have 100000 bytes, and a row of it 100000 numbers; with more it is not in the history, nor on the store, and one may go on behind it.
func TestLongRecords(t *testing.T) {
	g := game(t, lively)
	row := func(n int) []int64 { return make([]int64, n) }
	for _, c := range []struct {
		what  string
		tick  api.Tick
		picks []int
		fits  bool
	}{
		{"100000 bytes", sized(t, 100000), nil, true},
		{"100001 bytes", sized(t, 100001), nil, false},
		{"100001 bytes, with picks", sized(t, 99998), []int{0, 0, 0}, false},
		{"100000 bytes, with picks", sized(t, 99997), []int{0, 0, 0}, true},
		{"200000 bytes", sized(t, 200000), nil, false},
		{"a row of 100000", api.Tick{Asks: []api.Command{{Values: row(100000)}}}, nil, true},
		{"a row of 100001", api.Tick{Asks: []api.Command{{Values: row(100001)}}}, nil, false},
		{"the last ask's row of 100001", api.Tick{Asks: append(make([]api.Command, 199), api.Command{Values: row(100001)})}, nil, false},
		{"a part's row of 100000", api.Tick{Asks: []api.Command{spawn(p(1), p(2, row(100000)...))}}, nil, true},
		{"a part's row of 100001", api.Tick{Asks: []api.Command{spawn(p(1), p(2, row(100001)...))}}, nil, false},
		{"a row of very many", api.Tick{Asks: []api.Command{{Values: row(1000000)}}}, nil, false},
		{"many rows of 100000", api.Tick{Asks: slices.Repeat([]api.Command{{Values: row(100000)}}, 10)}, nil, true},
		{"a row of more than 100000 bytes", api.Tick{Asks: []api.Command{{Values: steep(33400)}}}, nil, false},
		{"a row of less", api.Tick{Asks: []api.Command{{Values: steep(33300)}}}, nil, true},
		{"two rows of more", api.Tick{Asks: []api.Command{{Values: steep(16700)}, {Values: steep(16700)}}}, nil, false},
		{"very many parts", api.Tick{Asks: []api.Command{spawn(make([]api.Part, 300000)...)}}, nil, false},
	} {
		j, s := grown(t, 3, 2, 5)
		size := sizeOf(s)
		if !c.fits {
			wantRefused(t, c.what, j, s, c.tick, c.picks, api.ErrRecord)
			wantAlike(t, "J3: behind "+c.what, j.History(), g, 3)
			record(t, j, 6, 6)
			wantFrames(t, "J3: behind "+c.what, j, fold(t, g, 6))
			wantFrames(t, "J2: behind "+c.what, open(t, g, s), fold(t, g, 6))
			continue
		}
		if _, bad := j.Record(c.tick, c.picks); bad != api.OK || j.History().Len() != 6 {
			t.Fatalf("J3: %s: %v, %d frames", c.what, bad, j.History().Len())
		}
		if !bytes.Equal(s.Bytes()[size:], laid(t, frameData(c.tick, c.picks))) {
			t.Errorf("J3: %s: the record is another one", c.what)
		}
		tick, picks, bad := open(t, g, s).History().Tick(6)
		if bad != api.OK || fmt.Sprint(tick, picks) != fmt.Sprint(c.tick, c.picks) {
			t.Errorf("J2: %s: another frame comes up, %v", c.what, bad)
		}
	}
}

// TestFullStore: J3, a frame for which the store has no room is refused, and the journal lives: lesser ones may go, up to the last byte. What is too long, or refused by the history, is so here, too.
func TestFullStore(t *testing.T) {
	s := storeOf(t, nil)
	g := game(t, "")
	j := create(t, g, s, 5000)
	b := s.Bytes()
	long := laid(t, frameData(api.Tick{Asks: []api.Command{{Values: steep(33300)}}}, nil))
	for api.MaxStore-len(b) >= 2*len(long) {
		b = append(b, long...)
	}
	s = storeOf(t, b)
	j = open(t, g, s)
	_, first := rec.Get(b)
	if j.History().Len() != (len(b)-first)/len(long) || sizeOf(s) != len(b) {
		t.Fatalf("J2: of very many bytes %d frames and %d bytes come up", j.History().Len(), sizeOf(s))
	}
	record := func(size int) {
		t.Helper()
		if _, bad := j.Record(sized(t, size), nil); bad != api.OK {
			t.Fatalf("J3: a frame of %d bytes: %v", size, bad)
		}
	}
	left := func() int { return api.MaxStore - sizeOf(s) - 7 } // for data of 128 up to 16383 bytes, whose record has seven more
	record(100000)
	record(left() - 5000)
	wantRefused(t, "a byte more than there is room", j, s, sized(t, left()+1), nil, api.ErrFull)
	wantRefused(t, "much more than there is room", j, s, sized(t, 100000), nil, api.ErrFull)
	wantRefused(t, "more than a frame may have", j, s, sized(t, 100001), nil, api.ErrRecord)
	if _, bad := j.Record(sized(t, 100001), []int{1}); bad != api.ErrPick {
		t.Errorf("J3: picks that do not go, on a full store: %v", bad)
	}
	s.Fuse(3)
	wantRefused(t, "more than there is room, whatever a fuse says", j, s, sized(t, left()+1), nil, api.ErrFull)
	s.Restart()
	record(left())
	if bad := j.Sync(); bad != api.OK || sizeOf(s) != api.MaxStore || j.Lasts() != j.History().Len() {
		t.Errorf("J4: of a full store: %v, %d bytes, Lasts %d", bad, sizeOf(s), j.Lasts())
	}
	wantRefused(t, "the least frame, on a full store", j, s, api.Tick{}, nil, api.ErrFull)
	if k := open(t, g, s); k.History().Len() != j.History().Len() || sizeOf(s) != api.MaxStore {
		t.Errorf("J2: of a full store %d frames come up, want %d", k.History().Len(), j.History().Len())
	}
}

// TestMostFrames: J2 and J3, there are at most 5000 frames; what stands behind them on the store is cut off, right as it may be.
func TestMostFrames(t *testing.T) {
	g := game(t, "system Say writes Pos { Pos.x = Pos.x + input(0, 0); }")
	s := storeOf(t, nil)
	j := create(t, g, s, 700)
	j.Record(api.Tick{Asks: []api.Command{spawn(p(1, 0, 0))}}, nil)
	tick := api.Tick{Inputs: []api.Input{{Value: 2}}}
	for range api.MaxFrames - 1 {
		if _, bad := j.Record(tick, nil); bad != api.OK {
			t.Fatalf("J3: %v", bad)
		}
	}
	j.Sync()
	was := told(s)
	for _, tick := range []api.Tick{tick, tooLong(), {Inputs: make([]api.Input, 33)}} {
		if report, bad := j.Record(tick, nil); bad != api.ErrFull || fmt.Sprint(report) != fmt.Sprint(api.Report{}) || told(s) != was || j.History().Len() != api.MaxFrames {
			t.Errorf("J3: one frame more than there may be: %v, %v", report, bad)
		}
	}
	s.Append(laid(t, frameData(tick, nil), frameData(tick, nil)))
	k := open(t, g, s)
	w, at := k.History().Now()
	if rows := fmt.Sprint(w.Rows()); told(s) != was || at != api.MaxFrames || k.Lasts() != at || rows != fmt.Sprintf("[{{0 1} [{1 [%d 0]}]}]", 2*(api.MaxFrames-1)) {
		t.Errorf("J2: of one frame more than there may be: %d frames, %s", at, rows)
	}
	if _, bad := k.Record(tick, nil); bad != api.ErrFull {
		t.Errorf("J3: one frame more than there may be: %v", bad)
	}
}

// allocated tells how many bytes a call asks for.
func allocated(call func()) uint64 {
	var was, is runtime.MemStats
	runtime.ReadMemStats(&was)
	call()
	runtime.ReadMemStats(&is)
	return is.TotalAlloc - was.TotalAlloc
}

// TestCountsThatLie: P1 of DOC.md, a number of things that are not there takes no memory.
func TestCountsThatLie(t *testing.T) {
	g := game(t, "")
	first := laid(t, gameData(g, 3))
	for n, data := range [][]byte{
		(&text{}).putInt(0).put(100000).b,
		(&text{}).putInt(0).put(0, 100000).b,
		(&text{}).putInt(0).put(0, 1).putInt(0, 0, 0, 0).put(0, 100000).b,
		(&text{}).putInt(0).put(0, 0, 100000).b,
		(&text{}).putInt(0).put(0, 1).putInt(0, 0, 0, 0).put(100000, 0).b,
	} {
		little, much := storeOf(t, slices.Concat(first, laid(t, []byte{0}))), storeOf(t, slices.Concat(first, laid(t, data)))
		open(t, g, little)
		least := allocated(func() { open(t, g, little) })
		if got := allocated(func() { open(t, g, much) }); got > least+100000 {
			t.Errorf("P1: the data %d, of %d bytes, take %d bytes, others %d", n, len(data), got, least)
		}
	}
	kinds := slices.Concat([]byte{3}, (&text{}).put(100000).b)
	other := storeOf(t, laid(t, kinds))
	if got := allocated(func() { journal.Open(g, other) }); got > 100000 {
		t.Errorf("P1: a game with very many kinds that are not there takes %d bytes", got)
	}
}

// held tells how many bytes are held by what a call makes.
func held(make func() any) (any, int64) {
	var was, is runtime.MemStats
	runtime.GC()
	runtime.ReadMemStats(&was)
	made := make()
	runtime.GC()
	runtime.ReadMemStats(&is)
	return made, int64(is.HeapAlloc) - int64(was.HeapAlloc)
}

// TestKeepsLittle: no more is kept than the promises need: nothing of frames that were refused, nor of bytes that were cut off.
func TestKeepsLittle(t *testing.T) {
	g := game(t, "")
	grown := func(refused int) func() any {
		return func() any {
			s := storeOf(t, nil)
			j := create(t, g, s, 3)
			record := func(tick api.Tick, want api.Errno) {
				if _, bad := j.Record(tick, nil); bad != want {
					t.Fatalf("J3: %v, want %v", bad, want)
				}
			}
			for range 30 {
				record(api.Tick{}, api.OK)
			}
			for range refused {
				record(tooLong(), api.ErrRecord)
			}
			return j
		}
	}
	few, little := held(grown(1))
	many, much := held(grown(50))
	if much > little+100000 {
		t.Errorf("behind 50 frames that were refused a journal holds %d bytes, behind one %d", much, little)
	}
	runtime.KeepAlive(few)
	runtime.KeepAlive(many)
	s := storeOf(t, slices.Concat(laid(t, gameData(g, 3)), make([]byte, 1000000)))
	j, much := held(func() any { return open(t, g, s) })
	if much > 100000 {
		t.Errorf("behind an Open of very many bytes that were no records a journal holds %d bytes", much)
	}
	runtime.KeepAlive(j)
}
