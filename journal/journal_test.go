package journal_test

import (
	"bytes"
	"fmt"
	"math"
	"slices"
	"testing"

	"hindcast/api"
	"hindcast/check"
	"hindcast/compile"
	"hindcast/frame"
	"hindcast/history"
	"hindcast/journal"
	"hindcast/store"
	"hindcast/syntax"
)

func e(index, gen int) api.Entity { return api.Entity{Index: index, Gen: gen} }

func p(kind int, values ...int64) api.Part { return api.Part{Kind: kind, Values: values} }

func spawn(parts ...api.Part) api.Command { return api.Command{Op: api.OpSpawn, Parts: parts} }

// three are the kinds of most games here: 1 is Pos, 2 is Mark, 3 is Life.
func three() []api.Kind {
	return []api.Kind{{Name: "Pos", Fields: []string{"x", "y"}}, {Name: "Mark"}, {Name: "Life", Fields: []string{"n"}}}
}

// lively is a game of which no two frames are alike: all are hurt by chance, by inputs and by the frame's number, come, go and are cut off. It has two stages, the first one of two systems.
const lively = `
system Say writes Pos { Pos.x = twice(Pos.x) + input(0, 0) + tick; Pos.y = Pos.y + rand(9); }
system Age without Mark writes Life { Life.n = Life.n - 1; if Life.n <= 0 { die; } if rand(4) == 0 { spawn Pos{x: me, y: tick}, Life{n: 2 + rand(6)}; } }
system Ring with Mark reads Pos { emit Pos.x, rand(10); if rand(6) == 0 { remove Mark; } if Pos.y % 5 == 3 { while 1 == 1 { } } }
func twice(n) { return n * 2; }
`

func gameOf(t testing.TB, kinds []api.Kind, source string) *frame.Game {
	t.Helper()
	tree, err := syntax.Parse(source)
	if err != nil {
		t.Fatalf("the test's own source: %v", err)
	}
	c, err := check.Check(tree, kinds)
	if err != nil {
		t.Fatalf("the test's own source: %v", err)
	}
	program, bad := compile.Compile(c)
	if bad != api.OK {
		t.Fatalf("the test's own source: %v", bad)
	}
	g, bad := frame.New(kinds, program)
	if bad != api.OK {
		t.Fatalf("the test's own game: %v", bad)
	}
	return g
}

func game(t testing.TB, source string) *frame.Game { t.Helper(); return gameOf(t, three(), source) }

// tickOf is a tick that stands for a number: no two of them are alike.
func tickOf(n int) api.Tick {
	x := int64(n)
	return api.Tick{
		Seed:   x * 7,
		Inputs: []api.Input{{Value: x}, {Player: 1, Key: n, Value: -x}},
		Asks: []api.Command{
			spawn(p(1, x, -x), p(3, 3+x%4)),
			{Op: api.OpAdd, E: e(n%3, 1), Kind: 2},
			{Op: api.OpDespawn, E: e(n%7, 1+n%2)},
			{Op: api.OpAdd, E: e(0, 1), Kind: 1, Values: []int64{x, x, x}},
		},
	}
}

// picksOf are picks that go in the lively game, or none.
func picksOf(n int) []int {
	if n%3 == 0 {
		return nil
	}
	return []int{n % 2, 0, 0}
}

// fold are the snapshots of the worlds of frames with the ticks of the numbers 1 and on, the one of frame 0 first, made without a journal.
func fold(t testing.TB, g *frame.Game, frames int) []string {
	t.Helper()
	w := g.Start()
	all := []string{string(w.Snapshot())}
	for f := 1; f <= frames; f++ {
		next, _, bad := g.Step(w, f, tickOf(f), picksOf(f))
		if bad != api.OK {
			t.Fatalf("the test's own tick %d: %v", f, bad)
		}
		w = next
		all = append(all, string(w.Snapshot()))
	}
	return all
}

func storeOf(t testing.TB, b []byte) *store.Store {
	t.Helper()
	s, bad := store.New(b)
	if bad != api.OK {
		t.Fatalf("the test's own store: %v", bad)
	}
	return s
}

func create(t testing.TB, g *frame.Game, s *store.Store, every int) *journal.Journal {
	t.Helper()
	j, bad := journal.Create(g, s, every)
	if bad != api.OK || j == nil {
		t.Fatalf("J1: Create, every %d: %v", every, bad)
	}
	return j
}

func open(t testing.TB, g *frame.Game, s *store.Store) *journal.Journal {
	t.Helper()
	j, bad := journal.Open(g, s)
	if bad != api.OK || j == nil {
		t.Fatalf("J2: Open: %v", bad)
	}
	return j
}

// record records the frames of these numbers, and holds the reports against those of the game.
func record(t testing.TB, j *journal.Journal, first, last int) {
	t.Helper()
	for n := first; n <= last; n++ {
		if _, bad := j.Record(tickOf(n), picksOf(n)); bad != api.OK {
			t.Fatalf("J3: Record of frame %d: %v", n, bad)
		}
	}
}

// grown is a journal of the lively game, with so many frames, of which the first ones last; and its store.
func grown(t testing.TB, every, lasts, frames int) (*journal.Journal, *store.Store) {
	t.Helper()
	s := storeOf(t, nil)
	j := create(t, game(t, lively), s, every)
	record(t, j, 1, lasts)
	if bad := j.Sync(); bad != api.OK {
		t.Fatalf("J4: Sync: %v", bad)
	}
	record(t, j, lasts+1, frames)
	return j, s
}

// told is all that a store tells.
func told(s *store.Store) string {
	size, lasts, on := s.State()
	return fmt.Sprintf("%d %d %v %x", size, lasts, on, s.Bytes())
}

// sizeOf tells how many bytes a store has.
func sizeOf(s *store.Store) int {
	size, _, _ := s.State()
	return size
}

// wantFrames holds the worlds of all frames against the first of some snapshots, and the ticks and picks against those of their numbers.
func wantFrames(t testing.TB, what string, j *journal.Journal, all []string) {
	t.Helper()
	h := j.History()
	if h.Len() != len(all)-1 {
		t.Fatalf("%s: there are %d frames, want %d", what, h.Len(), len(all)-1)
	}
	for f := h.Len(); f >= 0; f-- {
		if w, _, bad := h.Seek(f); bad != api.OK || string(w.Snapshot()) != all[f] {
			t.Fatalf("%s: the world of frame %d is another one, %v", what, f, bad)
		}
		if f == 0 {
			continue
		}
		tick, picks, bad := h.Tick(f)
		if bad != api.OK || fmt.Sprint(tick) != fmt.Sprint(tickOf(f)) || fmt.Sprint(picks) != fmt.Sprint(picksOf(f)) {
			t.Fatalf("%s: the tick of frame %d is %v, %v, want %v, %v", what, f, tick, picks, tickOf(f), picksOf(f))
		}
	}
}

// wantAlike holds a history against one to which the same frames were recorded, and of which nothing else was asked: by where one is, by the keys, and by what ways cost.
func wantAlike(t testing.TB, what string, h *history.History, g *frame.Game, every int) {
	t.Helper()
	fresh, _ := history.New(g, every, every)
	for f := 1; f <= h.Len(); f++ {
		tick, picks, _ := h.Tick(f)
		fresh.Record(tick, picks)
	}
	if got, want := way(h), way(fresh); got != want {
		t.Fatalf("%s: the history answers %s, want %s", what, got, want)
	}
}

// way goes about in a history, from where one is.
func way(h *history.History) string {
	w, at := h.Now()
	text := fmt.Sprintf("%d %d %x %v;", h.Len(), at, w.Snapshot(), h.Keys())
	for i := range 3 * (h.Len() + 1) {
		w, c, bad := h.Seek(h.Len() - i*5%(h.Len()+1))
		text += fmt.Sprintf(" %x %v %v;", w.Snapshot(), c, bad)
	}
	h.Seek(h.Len())
	for f := h.Len() - 1; f >= 0; f-- {
		_, at, bad := h.Go([]api.Step{{Op: api.StepUndo, Frame: f}})
		text += fmt.Sprint(at, bad)
	}
	return text
}

// TestExamples: the chapter's examples.
func TestExamples(t *testing.T) {
	g, s := game(t, lively), storeOf(t, nil)
	all := fold(t, g, 3)
	j := create(t, g, s, 4)
	record(t, j, 1, 2)
	if bad := j.Sync(); bad != api.OK {
		t.Fatalf("J4: Sync: %v", bad)
	}
	two := s.Bytes()
	record(t, j, 3, 3)
	three := s.Bytes()
	s.Crash(3, []byte("xx"))
	s.Restart()
	if got := j.Lasts(); got != 2 {
		t.Errorf("J4: Lasts: %d, want 2", got)
	}
	if report, bad := j.Record(tickOf(4), nil); bad != api.ErrDead || fmt.Sprint(report) != fmt.Sprint(api.Report{}) {
		t.Errorf("J3: Record behind a crash: %v, %v", report, bad)
	}
	if got, want := string(s.Bytes()), string(three[:len(two)+3])+"xx"; got != want {
		t.Fatalf("the test's own crash: %x, want %x", got, want)
	}
	k := open(t, g, s)
	wantFrames(t, "J2", k, all[:3])
	if !bytes.Equal(s.Bytes(), two) {
		t.Errorf("J2: the store has % x, want % x", s.Bytes(), two)
	}
	if j, bad := journal.Create(g, s, 4); j != nil || bad != api.ErrState {
		t.Errorf("J1: Create on a store with bytes: %v", bad)
	}
	if j, bad := journal.Open(game(t, ""), s); j != nil || bad != api.ErrJournal {
		t.Errorf("J2: Open with another game: %v", bad)
	}
	if j, bad := journal.Open(g, storeOf(t, nil)); j != nil || bad != api.ErrJournal {
		t.Errorf("J2: Open of an empty store: %v", bad)
	}
}

// TestCreate: J1, a journal of the frame 0 alone, whose game lasts; its history has every, and as many frames that can be undone.
func TestCreate(t *testing.T) {
	g := game(t, lively)
	for _, every := range []int{1, 2, 3, 4999, 5000} {
		s := storeOf(t, nil)
		j := create(t, g, s, every)
		if size, lasts, on := s.State(); size == 0 || size != lasts || !on {
			t.Errorf("J1: of %d bytes %d last, the power is %v", size, lasts, on)
		}
		if j.Lasts() != 0 {
			t.Errorf("J4: Lasts at first: %d", j.Lasts())
		}
		wantAlike(t, "J1: at first", j.History(), g, every)
		record(t, j, 1, 9)
		wantAlike(t, fmt.Sprint("J1: every ", every), j.History(), g, every)
	}
}

// TestCreateErrors: J1, the errors, the first that applies, and nothing changes.
func TestCreateErrors(t *testing.T) {
	g := game(t, lively)
	off := func(b []byte) *store.Store {
		s := storeOf(t, b)
		s.Crash(0, nil)
		return s
	}
	loose := storeOf(t, nil)
	loose.Append([]byte("x"))
	for _, c := range []struct {
		what  string
		game  *frame.Game
		store *store.Store
		every int
		want  api.Errno
	}{
		{"no game", nil, storeOf(t, nil), 3, api.ErrArg},
		{"no store", g, nil, 3, api.ErrArg},
		{"nothing", nil, nil, 0, api.ErrArg},
		{"every 0", g, storeOf(t, nil), 0, api.ErrArg},
		{"every -1", g, storeOf(t, nil), -1, api.ErrArg},
		{"every 5001", g, storeOf(t, nil), 5001, api.ErrArg},
		{"the greatest every", g, storeOf(t, nil), math.MaxInt, api.ErrArg},
		{"the least every", g, storeOf(t, nil), math.MinInt, api.ErrArg},
		{"no game, no power, bytes", nil, off([]byte("x")), 3, api.ErrArg},
		{"every 0, no power", g, off(nil), 0, api.ErrArg},
		{"every 5001, bytes", g, storeOf(t, []byte("x")), 5001, api.ErrArg},
		{"no power", g, off(nil), 3, api.ErrDead},
		{"no power, bytes", g, off([]byte("x")), 3, api.ErrDead},
		{"a byte", g, storeOf(t, []byte{0}), 3, api.ErrState},
		{"a loose byte", g, loose, 3, api.ErrState},
	} {
		was := ""
		if c.store != nil {
			was = told(c.store)
		}
		if j, bad := journal.Create(c.game, c.store, c.every); j != nil || bad != c.want {
			t.Errorf("J1: %s: %v, want %v", c.what, bad, c.want)
		}
		if c.store != nil && told(c.store) != was {
			t.Errorf("P2: %s: the store is another one", c.what)
		}
	}
}

// TestCreateFuse: J1, the power may fail at each byte of the game's record; behind it a journal is there.
func TestCreateFuse(t *testing.T) {
	g := game(t, lively)
	whole := storeOf(t, nil)
	create(t, g, whole, 3)
	size := sizeOf(whole)
	for n := range size + 1 {
		s := storeOf(t, nil)
		s.Fuse(n)
		j, bad := journal.Create(g, s, 3)
		if n == size {
			if j == nil || bad != api.OK || told(s) != told(whole) {
				t.Errorf("J1: with a fuse of as many bytes as the game has: %v, %s", bad, told(s))
			}
			continue
		}
		if j != nil || bad != api.ErrDead {
			t.Errorf("J1: with a fuse of %d bytes: %v", n, bad)
		}
		s.Restart()
		if !bytes.Equal(s.Bytes(), whole.Bytes()[:n]) {
			t.Errorf("J1: with a fuse of %d bytes there are % x", n, s.Bytes())
		}
		if j, bad := journal.Open(g, s); j != nil || bad != api.ErrJournal {
			t.Errorf("J2: of %d bytes of a game: %v", n, bad)
		}
		if j, bad := journal.Create(g, s, 3); n > 0 && (j != nil || bad != api.ErrState) {
			t.Errorf("J1: on %d bytes of a game: %v", n, bad)
		}
	}
}

// TestOpen: J2, all frames are there, loose or not, at the last one of which one is; all of them last then, and what stood behind them is gone.
func TestOpen(t *testing.T) {
	g := game(t, lively)
	all := fold(t, g, 7)
	for every := 1; every <= 9; every++ {
		for lasts := range 8 {
			_, s := grown(t, every, lasts, 7)
			size := sizeOf(s)
			b := s.Bytes()
			s.Append([]byte("no record"))
			j := open(t, g, s)
			if j.Lasts() != 7 {
				t.Errorf("J4: Lasts behind Open: %d, want 7", j.Lasts())
			}
			if got, last, on := s.State(); got != size || last != size || !on || !bytes.Equal(s.Bytes(), b) {
				t.Errorf("J2: of %d bytes %d last, the power is %v, want %d", got, last, on, size)
			}
			wantAlike(t, "J2: behind Open", j.History(), g, every)
			wantFrames(t, "J2", j, all)
		}
	}
}

// TestOpenOfItsOwn: Open of what Open left is the same, and cuts nothing off; one may go on behind each.
func TestOpenOfItsOwn(t *testing.T) {
	const frames = 9
	g := game(t, lively)
	all := fold(t, g, frames)
	s := storeOf(t, nil)
	create(t, g, s, 3)
	for f := 1; f <= frames; f++ {
		j := open(t, g, s)
		if j.Lasts() != f-1 {
			t.Errorf("J4: Lasts: %d, want %d", j.Lasts(), f-1)
		}
		was := told(s)
		wantFrames(t, "J2", j, all[:f])
		wantFrames(t, "J2", open(t, g, s), all[:f])
		if told(s) != was {
			t.Errorf("J2: Open of what Open left: the store is another one: %s, want %s", told(s), was)
		}
		record(t, j, f, f)
		wantFrames(t, "J3", j, all[:f+1])
		s.Append([]byte{0x82})
	}
}

// TestOpenErrors: J2, the errors, the first that applies, and nothing changes.
func TestOpenErrors(t *testing.T) {
	g := game(t, lively)
	_, full := grown(t, 3, 1, 2)
	off := storeOf(t, []byte("x"))
	off.Crash(0, nil)
	offFull := storeOf(t, full.Bytes())
	offFull.Crash(0, nil)
	loose := storeOf(t, []byte("no "))
	loose.Append([]byte("journal"))
	for _, c := range []struct {
		what  string
		game  *frame.Game
		store *store.Store
		want  api.Errno
	}{
		{"no game", nil, full, api.ErrArg},
		{"no store", g, nil, api.ErrArg},
		{"nothing", nil, nil, api.ErrArg},
		{"no game, no power", nil, off, api.ErrArg},
		{"no power", g, off, api.ErrDead},
		{"no power, a journal", g, offFull, api.ErrDead},
		{"no bytes", g, storeOf(t, nil), api.ErrJournal},
		{"no record", g, loose, api.ErrJournal},
		{"another game", game(t, ""), full, api.ErrJournal},
	} {
		was := ""
		if c.store != nil {
			was = told(c.store)
		}
		if j, bad := journal.Open(c.game, c.store); j != nil || bad != c.want {
			t.Errorf("J2: %s: %v, want %v", c.what, bad, c.want)
		}
		if c.store != nil && told(c.store) != was {
			t.Errorf("P2: %s: the store is another one", c.what)
		}
	}
}

// TestOpenOtherGames: J2, a journal is of one game: of just these kinds and this program. (Two games that are alike are one.)
func TestOpenOtherGames(t *testing.T) {
	kinds := func(change func(k []api.Kind)) []api.Kind {
		k := three()
		change(k)
		return k
	}
	const source = "system A with Mark reads Life writes Pos { Pos.x = twice(Life.n); } system B without Mark { emit 1, 2; } func twice(n) { let two = 2; return n * two; } func f() { return 1; }"
	games := []*frame.Game{
		gameOf(t, three(), source),
		gameOf(t, three(), ""),
		gameOf(t, kinds(func(k []api.Kind) { k[0].Fields[1] = "z" }), source),
		gameOf(t, kinds(func(k []api.Kind) { k[0].Fields = k[0].Fields[:1] }), source),
		gameOf(t, kinds(func(k []api.Kind) { k[1].Fields = []string{"n"} }), source),
		gameOf(t, append(three(), api.Kind{Name: "More"}), source),
		gameOf(t, kinds(func(k []api.Kind) { k[0], k[1] = k[1], k[0] }), ""),
		gameOf(t, kinds(func(k []api.Kind) { k[1].Name = "Marks" }), ""),
		gameOf(t, three()[:2], ""),
	}
	for _, change := range [][2]string{
		{"system A", "system C"}, {"with Mark", ""}, {"with Mark", "with Mark, Life"}, {"without Mark", "with Mark"}, {"reads Life", "reads Mark, Life"},
		{"reads Life writes Pos", "writes Pos, Life"}, {"Pos.x =", "Pos.y ="}, {"emit 1, 2", "emit 1, 3"}, {"twice", "dup"}, {"twice(n)", "twice(n, m)"},
		{"twice(Life.n)", "twice(Life.n, 1)"}, {"let two = 2; return n * two", "return n * 2"}, {"func f() { return 1; }", ""}, {"func f() { return 1; }", "func f() { let x = 1; return 1; }"}, {"system B without Mark { emit 1, 2; }", ""},
	} {
		text := string(bytes.ReplaceAll([]byte(source), []byte(change[0]), []byte(change[1])))
		if tree, err := syntax.Parse(text); err == nil {
			if _, err := check.Check(tree, three()); err == nil {
				games = append(games, game(t, text))
			}
		}
	}
	if len(games) < 19 {
		t.Errorf("the test's own games: there are %d", len(games))
	}
	for i, g := range games {
		s := storeOf(t, nil)
		create(t, g, s, 3)
		was := told(s)
		for k, other := range games {
			j, bad := journal.Open(other, s)
			if i == k && (j == nil || bad != api.OK) || i != k && (j != nil || bad != api.ErrJournal) {
				t.Errorf("J2: the journal of game %d with game %d: %v", i, k, bad)
			}
			if told(s) != was {
				t.Errorf("J2: the journal of game %d with game %d: the store is another one", i, k)
			}
		}
	}
	_, s := grown(t, 3, 2, 2)
	wantFrames(t, "J2: with a game that is alike", open(t, game(t, lively), s), fold(t, game(t, lively), 2))
}

// TestRecord: J3, the report is that of the frame, which is in the history then; its record stands behind the others, loose.
func TestRecord(t *testing.T) {
	g, s := game(t, lively), storeOf(t, nil)
	j := create(t, g, s, 3)
	w := g.Start()
	told := 0
	for f := 1; f <= 20; f++ {
		if f%4 == 0 {
			j.History().Seek(f / 2)
		}
		was := s.Bytes()
		_, lasted, _ := s.State()
		next, want, _ := g.Step(w, f, tickOf(f), picksOf(f))
		got, bad := j.Record(tickOf(f), picksOf(f))
		if bad != api.OK || fmt.Sprint(got) != fmt.Sprint(want) {
			t.Fatalf("J3: Record of frame %d: %v, %v, want %v", f, got, bad, want)
		}
		now, at := j.History().Now()
		if at != f || j.History().Len() != f || !bytes.Equal(now.Snapshot(), next.Snapshot()) {
			t.Errorf("J3: behind Record of frame %d one is at %d of %d", f, at, j.History().Len())
		}
		size, lasts, on := s.State()
		if !bytes.HasPrefix(s.Bytes(), was) || size == len(was) || lasts != lasted || !on {
			t.Errorf("J3: behind Record of frame %d: of %d bytes %d last, the power is %v, want %d to last", f, size, lasts, on, lasted)
		}
		w, told = next, told+len(got.Events)+len(got.Failed)+got.Refused+len(got.Spawned)
	}
	if told < 50 {
		t.Errorf("the test's own game: only %d things were told", told)
	}
}

// TestRecordErrors: J3, what the history refuses: its error, and nothing has changed, also where the frame would be too long.
func TestRecordErrors(t *testing.T) {
	j, s := grown(t, 3, 2, 4)
	h := j.History()
	h.Seek(1)
	was := told(s)
	for _, long := range []bool{false, true} {
		for _, c := range []struct {
			what  string
			tick  api.Tick
			picks []int
			want  api.Errno
		}{
			{"33 inputs", api.Tick{Inputs: make([]api.Input, 33)}, nil, api.ErrArg},
			{"201 asks", api.Tick{Asks: make([]api.Command, 201)}, nil, api.ErrArg},
			{"17 picks", api.Tick{}, make([]int, 17), api.ErrArg},
			{"33 inputs and picks that do not go", api.Tick{Inputs: make([]api.Input, 33)}, []int{9}, api.ErrArg},
			{"too few picks", api.Tick{}, []int{0}, api.ErrPick},
			{"a pick that does not go", api.Tick{}, []int{2, 0, 0}, api.ErrPick},
			{"a pick below 0", api.Tick{}, []int{-1, 0, 0}, api.ErrPick},
		} {
			if long {
				c.tick.Asks = append(slices.Clip(c.tick.Asks), api.Command{Values: make([]int64, 100001)})
			}
			report, bad := j.Record(c.tick, c.picks)
			if bad != c.want || fmt.Sprint(report) != fmt.Sprint(api.Report{}) {
				t.Errorf("J3: %s: %v, %v, want %v", c.what, report, bad, c.want)
			}
			if _, at := h.Now(); told(s) != was || j.History() != h || h.Len() != 4 || at != 1 || j.Lasts() != 2 {
				t.Errorf("P2: %s: something has changed", c.what)
			}
		}
	}
	record(t, j, 5, 5)
}

// TestSync: J4, all frames last, up to the last one; Lasts tells it until the next Sync, whatever is done.
func TestSync(t *testing.T) {
	j, s := grown(t, 3, 0, 0)
	for f := 1; f <= 6; f++ {
		if j.Lasts() != (f-1)/2*2 {
			t.Errorf("J4: Lasts ahead of frame %d: %d", f, j.Lasts())
		}
		record(t, j, f, f)
		j.History().Seek(0)
		if f%2 == 1 {
			continue
		}
		b := s.Bytes()
		for range 2 {
			if bad := j.Sync(); bad != api.OK || j.Lasts() != f {
				t.Errorf("J4: Sync: %v, Lasts %d, want %d", bad, j.Lasts(), f)
			}
			if size, lasts, on := s.State(); size != len(b) || lasts != size || !on || !bytes.Equal(s.Bytes(), b) {
				t.Errorf("J4: behind Sync of %d bytes %d last, the power is %v", size, lasts, on)
			}
		}
		if _, at := j.History().Now(); at != 0 {
			t.Errorf("J4: behind Sync one is at frame %d", at)
		}
	}
	s.Crash(0, nil)
	if bad := j.Sync(); bad != api.ErrDead || j.Lasts() != 6 {
		t.Errorf("J4: Sync without power: %v, Lasts %d", bad, j.Lasts())
	}
}

// TestHistory: J5, it is one history, in which one may seek; that shows in no other answer.
func TestHistory(t *testing.T) {
	g := game(t, lively)
	all := fold(t, g, 9)
	j, s := grown(t, 4, 3, 6)
	h := j.History()
	was := told(s)
	for _, f := range []int{0, 5, 2, 6, 1, 7, -1} {
		h.Seek(f)
		h.Go([]api.Step{{Op: api.StepLoad, Frame: 4}})
		h.Cut(3)
		if j.History() != h || told(s) != was || j.Lasts() != 3 {
			t.Errorf("J5: behind a Seek of %d something has changed", f)
		}
	}
	record(t, j, 7, 9)
	if j.History() != h {
		t.Errorf("J5: behind a Record it is another history")
	}
	wantFrames(t, "J5", j, all)
	s.Crash(0, nil)
	j.Sync()
	if j.History() != h {
		t.Errorf("J5: of a dead journal it is another history")
	}
	wantFrames(t, "J5: of a dead journal", j, all)
}
