package journal_test

import (
	"bytes"
	"encoding/binary"
	"fmt"
	"math/rand"
	"slices"
	"testing"

	"hindcast/api"
	"hindcast/frame"
	"hindcast/history"
	"hindcast/journal"
	rec "hindcast/record"
	"hindcast/store"
)

// model is a journal as the chapter's words say it, on a store of its own, to which the same happens as to the other one's. Its history is one of which nothing was ever cut off.
type model struct {
	game        *frame.Game
	store       *store.Store
	every       int
	history     *history.History
	size, lasts int
	found       bool // a Record or Sync has found it dead
	sure        int
}

func (m *model) note() { m.size, m.lasts, _ = m.store.State() }

func (m *model) dead() bool {
	size, lasts, on := m.store.State()
	m.found = m.found || !on || size != m.size || lasts != m.lasts
	return m.found
}

func modelCreate(g *frame.Game, s *store.Store, every int) (*model, api.Errno) {
	h, bad := history.New(g, every, every)
	size, _, on := s.State()
	switch {
	case bad != api.OK:
		return nil, api.ErrArg
	case !on:
		return nil, api.ErrDead
	case size > 0:
		return nil, api.ErrState
	}
	b, _ := rec.Put(nil, gameData(g, every))
	if bad := s.Append(b); bad != api.OK {
		return nil, bad
	}
	s.Sync()
	m := &model{game: g, store: s, every: every, history: h}
	m.note()
	return m, api.OK
}

func modelOpen(g *frame.Game, s *store.Store) (*model, api.Errno) {
	if _, _, on := s.State(); !on {
		return nil, api.ErrDead
	}
	all, _ := rec.Scan(s.Bytes())
	if len(all) == 0 {
		return nil, api.ErrJournal
	}
	every, _ := binary.Uvarint(all[0])
	if every < 1 || every > 5000 || !bytes.Equal(all[0], gameData(g, int(every))) {
		return nil, api.ErrJournal
	}
	m := &model{game: g, store: s, every: int(every)}
	m.history, _ = history.New(g, m.every, m.every)
	right, _ := rec.Put(nil, all[0])
	for _, data := range all[1:] {
		tick, picks, ok := modelFrame(data)
		if !ok {
			break
		}
		if _, bad := m.history.Record(tick, picks); bad != api.OK {
			break
		}
		right, _ = rec.Put(right, data)
	}
	s.Cut(len(right))
	s.Sync()
	m.note()
	m.sure = m.history.Len()
	return m, api.OK
}

func (m *model) record(tick api.Tick, picks []int) (api.Report, api.Errno) {
	if m.dead() {
		return api.Report{}, api.ErrDead
	}
	report, bad := m.history.Record(tick, picks)
	if bad != api.OK {
		return api.Report{}, bad
	}
	if bad := m.put(tick, picks); bad != api.OK {
		m.recordAgain(m.history.Len() - 1)
		return api.Report{}, bad
	}
	m.note()
	return report, api.OK
}

func (m *model) put(tick api.Tick, picks []int) api.Errno {
	for _, ask := range tick.Asks {
		for _, row := range append([][]int64{ask.Values}, rows(ask.Parts)...) {
			if len(row) > 100000 {
				return api.ErrRecord
			}
		}
	}
	b, bad := rec.Put(nil, frameData(tick, picks))
	if bad != api.OK {
		return api.ErrRecord
	}
	bad = m.store.Append(b)
	m.found = bad == api.ErrDead
	return bad
}

func rows(parts []api.Part) [][]int64 {
	var all [][]int64
	for _, part := range parts {
		all = append(all, part.Values)
	}
	return all
}

// recordAgain makes another history with the first frames.
func (m *model) recordAgain(frames int) {
	h, _ := history.New(m.game, m.every, m.every)
	for f := 1; f <= frames; f++ {
		tick, picks, _ := m.history.Tick(f)
		h.Record(tick, picks)
	}
	m.history = h
}

func (m *model) sync() api.Errno {
	if m.dead() {
		return api.ErrDead
	}
	m.store.Sync()
	m.note()
	m.sure = m.history.Len()
	return api.OK
}

// pair is a journal beside the model of it.
type pair struct {
	j *journal.Journal
	m *model
}

// caller makes calls that are left to chance, or to bytes, of a store and what stands beside it, and of several journals on it and their models.
type caller struct {
	testing.TB
	below  func(n int) int // 0 up to n, without n
	games  []*frame.Game
	stores [2]*store.Store
	pairs  []pair
	seen   map[string]int
}

func newCaller(t testing.TB, games []*frame.Game, below func(n int) int, seen map[string]int) *caller {
	return &caller{TB: t, below: below, games: games, stores: [2]*store.Store{storeOf(t, nil), storeOf(t, nil)}, seen: seen}
}

func (c *caller) chance(of int) bool { return c.below(of) == 0 }

// call makes one, and holds all that can be told without a Seek.
func (c *caller) call() {
	_, _, on := c.stores[0].State()
	switch kind := c.below(20); {
	case len(c.pairs) == 0 || kind == 0 || !on && kind < 4:
		c.begin()
	case kind < 10:
		c.record(c.pair())
	case kind < 12:
		c.sync(c.pair())
	case kind < 14:
		c.seek(c.pair())
	default:
		c.happen()
	}
	c.holds()
}

// pair is mostly the youngest one.
func (c *caller) pair() pair {
	if c.chance(6) {
		return c.pairs[c.below(len(c.pairs))]
	}
	return c.pairs[len(c.pairs)-1]
}

// begin opens a journal, or creates one, mostly when the power is on.
func (c *caller) begin() {
	if !c.chance(3) {
		c.stores[0].Restart()
		c.stores[1].Restart()
	}
	g := c.games[0]
	if c.chance(12) {
		g = c.games[1]
	}
	var x pair
	var bad, want api.Errno
	what := "Open"
	if size, _, _ := c.stores[0].State(); size == 0 != c.chance(8) {
		every := c.below(6)
		what = "Create"
		x.j, bad = journal.Create(g, c.stores[0], every)
		x.m, want = modelCreate(g, c.stores[1], every)
	} else {
		x.j, bad = journal.Open(g, c.stores[0])
		x.m, want = modelOpen(g, c.stores[1])
	}
	if bad != want || (x.j == nil) != (x.m == nil) {
		c.Fatalf("J1, J2: %s: %v, want %v", what, bad, want)
	}
	c.seen[fmt.Sprint(what, " ", int(bad))]++
	if x.j == nil {
		if bad == api.ErrJournal && c.chance(3) {
			c.stores[0].Cut(0)
			c.stores[1].Cut(0)
		}
		return
	}
	c.pairs = append(c.pairs, x)
	if len(c.pairs) > 3 {
		c.pairs = c.pairs[1:]
	}
}

func (c *caller) record(x pair) {
	tick, picks := tickOf(c.below(200)), picksOf(c.below(6))
	switch c.below(16) {
	case 0:
		picks = []int{c.below(3), 0, c.below(2)}
	case 1:
		tick.Inputs = make([]api.Input, 32+c.below(2))
	case 2:
		tick = tooLong()
	case 3:
		tick.Asks[0].Values = slices.Repeat([]int64{int64(c.below(200)) - 100}, c.below(300))
	}
	was := sizeOf(c.stores[0])
	want, wantBad := x.m.record(tick, picks)
	got, bad := x.j.Record(tick, picks)
	if bad != wantBad || fmt.Sprint(got) != fmt.Sprint(want) {
		c.Fatalf("J3: Record: %v, %v, want %v, %v", got, bad, want, wantBad)
	}
	c.seen[fmt.Sprint("Record ", int(bad))]++
	if bad == api.ErrDead && sizeOf(c.stores[0]) > was {
		c.seen["Record blows a fuse"]++
	}
}

func (c *caller) sync(x pair) {
	want := x.m.sync()
	if bad := x.j.Sync(); bad != want {
		c.Fatalf("J4: Sync: %v, want %v", bad, want)
	}
	c.seen[fmt.Sprint("Sync ", int(want))]++
}

func (c *caller) seek(x pair) {
	f := c.below(x.m.history.Len()+3) - 1
	w, want, wantBad := x.m.history.Seek(f)
	v, got, bad := x.j.History().Seek(f)
	if got != want || bad != wantBad || bad == api.OK && !bytes.Equal(w.Snapshot(), v.Snapshot()) {
		c.Fatalf("J5: Seek(%d): %v, %v, want %v, %v", f, got, bad, want, wantBad)
	}
}

// happen does something to both stores.
func (c *caller) happen() {
	does := c.someHappening()
	if one, other := does(c.stores[0]), does(c.stores[1]); one != other {
		c.Fatalf("the test's own stores are not alike: %v, %v", one, other)
	}
}

func (c *caller) someHappening() func(s *store.Store) api.Errno {
	size, n := sizeOf(c.stores[0]), c.below(250)
	switch c.below(16) {
	case 0:
		junk := c.someJunk()
		return func(s *store.Store) api.Errno { return s.Append(junk) }
	case 1:
		return func(s *store.Store) api.Errno { return s.Cut(size - n%4) }
	case 2:
		return (*store.Store).Sync
	case 3, 4, 5:
		return func(s *store.Store) api.Errno { return s.Fuse(n) }
	case 6, 7:
		junk := c.someJunk()
		return func(s *store.Store) api.Errno { return s.Crash(n, junk) }
	case 8, 9:
		return func(s *store.Store) api.Errno { return s.Crash(0, nil) }
	}
	return func(s *store.Store) api.Errno { s.Restart(); return api.OK }
}

// someJunk is often right records, or nearly.
func (c *caller) someJunk() []byte {
	b, _ := rec.Put(nil, frameData(tickOf(c.below(200)), picksOf(c.below(6))))
	switch c.below(8) {
	case 0:
		return nil
	case 1:
		b = b[:c.below(len(b))]
	case 2:
		b[c.below(len(b))] ^= 1 << c.below(8)
	case 3:
		b, _ = rec.Put(b, gameData(c.games[0], 3))
	case 4:
		b, _ = rec.Put(b, frameData(api.Tick{}, []int{c.below(3), 0, 0}))
	case 5:
		b = []byte{byte(c.below(256))}
	}
	return b
}

// holds holds the store against the other one, and what the journals know against their models.
func (c *caller) holds() {
	if one, other := told(c.stores[0]), told(c.stores[1]); one != other {
		c.Fatalf("the store is %s, want %s", one, other)
	}
	for _, x := range c.pairs {
		if got, want := x.j.Lasts(), x.m.sure; got != want {
			c.Fatalf("J4: Lasts: %d, want %d", got, want)
		}
		w, at := x.j.History().Now()
		v, wantAt := x.m.history.Now()
		if got, want := x.j.History().Len(), x.m.history.Len(); got != want || at != wantAt || !bytes.Equal(w.Snapshot(), v.Snapshot()) {
			c.Fatalf("J5: one is at %d of %d frames, want %d of %d", at, got, wantAt, want)
		}
	}
}

// sweep asks for all frames of all journals.
func (c *caller) sweep() {
	for _, x := range c.pairs {
		for f := 1; f <= x.m.history.Len(); f++ {
			tick, picks, _ := x.j.History().Tick(f)
			wantTick, wantPicks, _ := x.m.history.Tick(f)
			if got, want := fmt.Sprint(tick, picks), fmt.Sprint(wantTick, wantPicks); got != want {
				c.Fatalf("J5: the tick of frame %d is %s, want %s", f, got, want)
			}
		}
		if got, want := way(x.j.History()), way(x.m.history); got != want {
			c.Fatalf("J5: the history answers otherwise")
		}
	}
}

// TestModel: J1 to J5, calls in all orders, whatever happens to the store, against what the chapter's words say.
func TestModel(t *testing.T) {
	seen := map[string]int{}
	games := []*frame.Game{game(t, lively), game(t, "")}
	for seed := range 90 {
		r := rand.New(rand.NewSource(int64(seed)))
		c := newCaller(t, games, r.Intn, seen)
		for range 120 {
			c.call()
		}
		c.sweep()
	}
	for _, what := range []string{"Create 0", "Create 1", "Create 2", "Create 30", "Open 0", "Open 30", "Open 230", "Record 0", "Record 1", "Record 20", "Record 30", "Record 180", "Record blows a fuse", "Sync 0", "Sync 30"} {
		if seen[what] < 20 {
			t.Errorf("the test's own calls: %s was seen %d times", what, seen[what])
		}
	}
}

// FuzzCalls: P1 of DOC.md, and J1 to J5, any calls against the model.
func FuzzCalls(f *testing.F) {
	f.Add([]byte{})
	f.Add([]byte{1, 1, 1, 3, 5, 1, 2, 9, 5, 1, 2, 9, 10, 1, 5, 1, 2, 9, 19, 7, 3, 100, 4, 1, 1, 1, 0})
	f.Add([]byte{1, 1, 1, 1, 19, 30, 4, 5, 1, 1, 9, 0, 1, 1, 1, 1, 1, 5, 1, 2, 3, 4, 5, 6, 7})
	games := []*frame.Game{game(f, lively), game(f, "")}
	f.Fuzz(func(t *testing.T, bytes []byte) {
		c := newCaller(t, games, nil, map[string]int{})
		c.below = func(n int) int {
			if len(bytes) == 0 {
				return 0
			}
			first := int(bytes[0])
			bytes = bytes[1:]
			return first % n
		}
		for range 100 {
			if len(bytes) > 0 {
				c.call()
			}
		}
		c.sweep()
	})
}

// FuzzOpen: P1 of DOC.md, and J2, any data as a record behind a game and a frame, and any bytes behind that, or any bytes at all.
func FuzzOpen(f *testing.F) {
	g := game(f, lively)
	first := laid(f, gameData(g, 3), frameData(tickOf(1), nil))
	f.Add(frameData(tickOf(2), picksOf(1)), laid(f, frameData(tickOf(3), nil)))
	f.Add(frameData(tickOf(2), nil), []byte{0x82})
	f.Add([]byte{0, 0, 0, 0}, first)
	f.Add([]byte{}, append(slices.Clone(first), 1, 2, 3))
	for _, tick := range extremes() {
		f.Add(frameData(tick, nil), []byte{})
	}
	f.Fuzz(func(t *testing.T, data, more []byte) {
		b := slices.Concat(first, more)
		if len(data) > 0 && len(data) <= 100000 {
			b = slices.Concat(first, laid(t, data), more)
		}
		for _, b := range [][]byte{b, more} {
			s, z := storeOf(t, b), storeOf(t, b)
			j, bad := journal.Open(g, s)
			m, want := modelOpen(g, z)
			if bad != want || (j == nil) != (m == nil) || told(s) != told(z) {
				t.Fatalf("J2: %v, %s, want %v, %s", bad, told(s), want, told(z))
			}
			if m == nil {
				continue
			}
			c := &caller{TB: t, stores: [2]*store.Store{s, z}, pairs: []pair{{j, m}}}
			c.holds()
			c.sweep()
		}
	})
}
