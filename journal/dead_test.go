package journal_test

import (
	"fmt"
	"testing"

	"hindcast/api"
	"hindcast/journal"
	"hindcast/store"
)

// happening is something that happens to the store of a journal of five frames, of which three last (or all, if all is synced ahead).
type happening struct {
	what string
	all  bool // whether all is synced ahead
	dead bool // whether the journal is dead then
	do   func(t *testing.T, j *journal.Journal, s *store.Store)
}

// happenings are those of which the chapter says whether they make a journal dead: it goes by the power, the size, and what lasts, alone.
var happenings = []happening{
	{"nothing", false, false, func(t *testing.T, j *journal.Journal, s *store.Store) {}},
	{"a Restart", false, false, func(t *testing.T, j *journal.Journal, s *store.Store) { s.Restart() }},
	{"a fuse", false, false, func(t *testing.T, j *journal.Journal, s *store.Store) { s.Fuse(1000) }},
	{"the power fails", false, true, func(t *testing.T, j *journal.Journal, s *store.Store) { s.Crash(0, nil) }},
	{"the power fails, all of it lasts", true, true, func(t *testing.T, j *journal.Journal, s *store.Store) { s.Crash(0, nil) }},
	{"the power fails, the loose bytes are lost", false, true, func(t *testing.T, j *journal.Journal, s *store.Store) { s.Crash(0, nil); s.Restart() }},
	{"the power fails, some loose bytes stay", false, true, func(t *testing.T, j *journal.Journal, s *store.Store) { s.Crash(9, nil); s.Restart() }},
	{"the power fails, all loose bytes stay", false, true, func(t *testing.T, j *journal.Journal, s *store.Store) { s.Crash(1000000, nil); s.Restart() }},
	{"the power fails, there is nothing to lose", true, false, func(t *testing.T, j *journal.Journal, s *store.Store) { s.Crash(0, nil); s.Restart() }},
	{"the power fails, junk stands there", true, true, func(t *testing.T, j *journal.Journal, s *store.Store) { s.Crash(0, []byte{0}); s.Restart() }},
	{"the power fails, junk of as many bytes as were lost", false, true, func(t *testing.T, j *journal.Journal, s *store.Store) {
		size, lasts, _ := s.State()
		s.Crash(0, make([]byte, size-lasts))
		s.Restart()
	}},
	{"a byte more", false, true, func(t *testing.T, j *journal.Journal, s *store.Store) { s.Append([]byte{0}) }},
	{"no byte more", false, false, func(t *testing.T, j *journal.Journal, s *store.Store) { s.Append(nil) }},
	{"a byte more, and less", false, false, func(t *testing.T, j *journal.Journal, s *store.Store) { s.Append([]byte{0}); s.Cut(sizeOf(s) - 1) }},
	{"a byte less", true, true, func(t *testing.T, j *journal.Journal, s *store.Store) { s.Cut(sizeOf(s) - 1) }},
	{"a loose byte less", false, true, func(t *testing.T, j *journal.Journal, s *store.Store) { s.Cut(sizeOf(s) - 1) }},
	{"a byte that lasted is loose", true, true, func(t *testing.T, j *journal.Journal, s *store.Store) { s.Cut(sizeOf(s) - 1); s.Append([]byte{0}) }},
	{"all bytes less", false, true, func(t *testing.T, j *journal.Journal, s *store.Store) { s.Cut(0) }},
	{"no byte less", false, false, func(t *testing.T, j *journal.Journal, s *store.Store) { s.Cut(sizeOf(s)) }},
	{"loose bytes that last", false, true, func(t *testing.T, j *journal.Journal, s *store.Store) { s.Sync() }},
	{"a Sync, where all lasted", true, false, func(t *testing.T, j *journal.Journal, s *store.Store) { s.Sync() }},
	{"another journal, of what was loose", false, true, func(t *testing.T, j *journal.Journal, s *store.Store) { open(t, game(t, lively), s) }},
	{"another journal", true, false, func(t *testing.T, j *journal.Journal, s *store.Store) { open(t, game(t, lively), s) }},
	{"another journal, and its frame", true, true, func(t *testing.T, j *journal.Journal, s *store.Store) { record(t, open(t, game(t, lively), s), 6, 6) }},
	{"Lasts and History without power", true, false, func(t *testing.T, j *journal.Journal, s *store.Store) {
		s.Crash(0, nil)
		j.Lasts()
		j.History().Seek(2)
		s.Restart()
	}},
	{"Lasts and History beside a byte more", false, false, func(t *testing.T, j *journal.Journal, s *store.Store) {
		s.Append([]byte{0})
		j.Lasts()
		j.History()
		s.Cut(sizeOf(s) - 1)
	}},
	{"a Record without power", true, true, func(t *testing.T, j *journal.Journal, s *store.Store) {
		s.Crash(0, nil)
		j.Record(tickOf(6), nil)
		s.Restart()
	}},
	{"a Sync without power", true, true, func(t *testing.T, j *journal.Journal, s *store.Store) {
		s.Crash(0, nil)
		j.Sync()
		s.Restart()
	}},
	{"a Record beside a byte more", false, true, func(t *testing.T, j *journal.Journal, s *store.Store) {
		s.Append([]byte{0})
		j.Record(tickOf(6), nil)
		s.Cut(sizeOf(s) - 1)
	}},
	{"a Record that does not go, beside a byte more", false, true, func(t *testing.T, j *journal.Journal, s *store.Store) {
		s.Append([]byte{0})
		j.Record(api.Tick{}, []int{9})
		s.Cut(sizeOf(s) - 1)
	}},
	{"a Sync beside a byte more", false, true, func(t *testing.T, j *journal.Journal, s *store.Store) {
		s.Append([]byte{0})
		j.Sync()
		s.Cut(sizeOf(s) - 1)
	}},
	{"a Record that blows the fuse, of which nothing stays", true, true, func(t *testing.T, j *journal.Journal, s *store.Store) {
		s.Fuse(0)
		j.Record(tickOf(6), nil)
		s.Restart()
	}},
	{"a Record that does not go", false, false, func(t *testing.T, j *journal.Journal, s *store.Store) { j.Record(api.Tick{}, []int{9}) }},
	{"a Record that does not go, ahead of a fuse", false, false, func(t *testing.T, j *journal.Journal, s *store.Store) {
		s.Fuse(0)
		j.Record(api.Tick{}, []int{9})
		j.Record(tooLong(), nil)
		s.Restart()
	}},
	{"a Record that is too long", false, false, func(t *testing.T, j *journal.Journal, s *store.Store) { j.Record(tooLong(), nil) }},
	{"a Record that does not go, and then a byte more", false, true, func(t *testing.T, j *journal.Journal, s *store.Store) {
		j.Record(api.Tick{}, []int{9})
		s.Append([]byte{0})
	}},
	{"a Record that is too long, and then a byte more", false, true, func(t *testing.T, j *journal.Journal, s *store.Store) {
		j.Record(tooLong(), nil)
		s.Append([]byte{0})
	}},
}

func tooLong() api.Tick {
	return api.Tick{Asks: []api.Command{{Values: make([]int64, 100001)}}}
}

// TestDead: what a journal knows of its store: when it is dead, what Record and Sync answer then, and that nothing changes.
func TestDead(t *testing.T) {
	for _, c := range happenings {
		for _, syncs := range []bool{false, true} {
			lasts := 3
			if c.all {
				lasts = 5
			}
			j, s := grown(t, 3, lasts, 5)
			c.do(t, j, s)
			was := told(s)
			if c.dead {
				wantDead(t, c.what, j, syncs)
				if told(s) != was || j.History().Len() != 5 || j.Lasts() != lasts {
					t.Errorf("P2: %s: something has changed", c.what)
				}
				continue
			}
			wantLiving(t, c.what, j, s, syncs)
		}
	}
}

// wantDead asks for a Record and a Sync, one of them first, and for Records that are wrong otherwise, too.
func wantDead(t *testing.T, what string, j *journal.Journal, syncs bool) {
	t.Helper()
	if syncs {
		if bad := j.Sync(); bad != api.ErrDead {
			t.Errorf("J4: %s: Sync: %v", what, bad)
		}
	}
	for _, tick := range []api.Tick{tickOf(6), {Inputs: make([]api.Input, 33)}, tooLong()} {
		for _, picks := range [][]int{nil, {9}} {
			if report, bad := j.Record(tick, picks); bad != api.ErrDead || fmt.Sprint(report) != fmt.Sprint(api.Report{}) {
				t.Errorf("J3: %s: Record: %v, %v", what, report, bad)
			}
		}
	}
	if bad := j.Sync(); bad != api.ErrDead {
		t.Errorf("J4: %s: Sync: %v", what, bad)
	}
}

// wantLiving asks for a Sync, perhaps, and for a Record and a Sync, and opens what stands there then.
func wantLiving(t *testing.T, what string, j *journal.Journal, s *store.Store, syncs bool) {
	t.Helper()
	if bad := j.Sync(); syncs && (bad != api.OK || j.Lasts() != 5) {
		t.Errorf("J4: %s: Sync: %v, Lasts %d", what, bad, j.Lasts())
	}
	if _, bad := j.Record(tickOf(6), picksOf(6)); bad != api.OK {
		t.Errorf("J3: %s: Record: %v", what, bad)
	}
	if bad := j.Sync(); bad != api.OK || j.Lasts() != 6 {
		t.Errorf("J4: %s: Sync: %v, Lasts %d", what, bad, j.Lasts())
	}
	g := game(t, lively)
	wantFrames(t, what, open(t, g, s), fold(t, g, 6))
}

// TestDeadForEver: a journal that a Record or Sync has found dead stays dead, also if the store is again as it was; another one lives.
func TestDeadForEver(t *testing.T) {
	j, s := grown(t, 3, 5, 5)
	s.Append([]byte{0})
	j.Sync()
	s.Cut(sizeOf(s) - 1)
	wantDead(t, "behind a byte more, and less", j, true)
	k := open(t, game(t, lively), s)
	wantDead(t, "beside another one", j, false)
	wantLiving(t, "the other one", k, s, true)
	wantDead(t, "behind the other one", j, true)
}

// TestFuse: J3, the power fails at each byte of a frame's record: the journal is dead, its history is without that frame, and so is what is opened then.
func TestFuse(t *testing.T) {
	g := game(t, lively)
	all := fold(t, g, 6)
	_, whole := grown(t, 3, 3, 6)
	for n := 0; ; n++ {
		j, s := grown(t, 3, 3, 5)
		j.History().Seek(2)
		size := sizeOf(s)
		s.Fuse(n)
		report, bad := j.Record(tickOf(6), picksOf(6))
		if n == sizeOf(whole)-size {
			if bad != api.OK || told(s) != told(whole) || j.History().Len() != 6 {
				t.Errorf("J3: with a fuse of as many bytes as the frame has: %v", bad)
			}
			return
		}
		if bad != api.ErrDead || fmt.Sprint(report) != fmt.Sprint(api.Report{}) || j.Lasts() != 3 {
			t.Fatalf("J3: with a fuse of %d bytes: %v, %v, Lasts %d", n, report, bad, j.Lasts())
		}
		wantAlike(t, "J3: behind a fuse", j.History(), g, 3)
		wantFrames(t, "J3: behind a fuse", j, all[:6])
		wantDead(t, "a fuse", j, n%2 == 0)
		s.Restart()
		wantDead(t, "a fuse, and a Restart", j, n%2 == 0)
		k := open(t, g, s)
		wantFrames(t, "J6: behind a fuse", k, all[:6])
		if sizeOf(s) != size || k.Lasts() != 5 {
			t.Errorf("J2: behind a fuse of %d bytes there are %d bytes, want %d", n, sizeOf(s), size)
		}
		record(t, k, 6, 6)
		wantFrames(t, "J3: behind what was opened", k, all)
	}
}
