package journal_test

import (
	"bytes"
	"math/bits"
	"math/rand"
	"slices"
	"testing"

	"hindcast/api"
	"hindcast/journal"
	"hindcast/pack"
	rec "hindcast/record"
	"hindcast/store"
)

// ends are the sizes that a store has behind the game and behind each of so many frames.
func ends(t testing.TB, frames int) []int {
	t.Helper()
	j, s := grown(t, 3, 0, 0)
	all := []int{sizeOf(s)}
	for f := 1; f <= frames; f++ {
		record(t, j, f, f)
		all = append(all, sizeOf(s))
	}
	return all
}

// wholeIn tells how many frames stand whole in so many bytes.
func wholeIn(ends []int, size int) int {
	return len(slices.DeleteFunc(slices.Clone(ends), func(end int) bool { return end > size })) - 1
}

// TestCrashes: J6 and P11 of DOC.md, wherever the power fails, however many loose bytes stay: the first frames come up, all that lasted among them, and all that stand whole; one may go on.
func TestCrashes(t *testing.T) {
	const frames = 6
	g := game(t, lively)
	all, ends := fold(t, g, frames), ends(t, frames)
	for lasts := range frames + 1 {
		for last := lasts; last <= frames; last += 2 {
			for keep := range ends[last] - ends[lasts] + 2 {
				j, s := grown(t, 3, lasts, last)
				if bad := s.Crash(keep, nil); bad != api.OK {
					t.Fatalf("the test's own crash: %v", bad)
				}
				s.Restart()
				want := wholeIn(ends, min(ends[lasts]+keep, ends[last]))
				k := open(t, g, s)
				if got := k.History().Len(); got != want || got < j.Lasts() || got > last {
					t.Fatalf("J6: of %d frames of which %d last, and %d bytes: %d frames, want %d", last, lasts, keep, got, want)
				}
				if size, sure, on := s.State(); size != ends[want] || sure != size || !on || k.Lasts() != want {
					t.Fatalf("J2: of %d frames of which %d last, and %d bytes: %d bytes, of which %d last, want %d", last, lasts, keep, size, sure, ends[want])
				}
				if keep%9 == 0 {
					wantFrames(t, "J6", k, all[:want+1])
					record(t, k, want+1, frames)
					wantFrames(t, "J6: gone on", k, all)
				}
			}
		}
	}
}

// TestJunk: J6 and P11 of DOC.md, whatever stands behind what stayed: if it is no right record, nothing of it comes up.
func TestJunk(t *testing.T) {
	const lasts, last = 2, 4
	g := game(t, lively)
	all, ends := fold(t, g, last), ends(t, last)
	frames := func(numbers ...int) []byte {
		var b []byte
		for _, n := range numbers {
			b = append(b, laid(t, frameData(tickOf(n), picksOf(n)))...)
		}
		return b
	}
	turned := frames(5)
	turned[len(turned)-1] ^= 1
	for what, junk := range map[string][]byte{
		"nothing":                           nil,
		"a nought":                          {0},
		"noughts":                           make([]byte, 1000),
		"the beginning of a record":         {0x82},
		"half of a frame":                   frames(5)[:20],
		"a frame that is turned":            turned,
		"a frame that is turned, and more":  append(slices.Clone(turned), frames(5)...),
		"a byte, and a frame":               append([]byte{1}, frames(5)...),
		"the game":                          laid(t, gameData(g, 3)),
		"the game, and frames":              append(laid(t, gameData(g, 3)), frames(1, 2)...),
		"a record that is no frame":         append(laid(t, []byte("no frame")), frames(5)...),
		"a frame that does not go":          append(laid(t, frameData(api.Tick{}, []int{3})), frames(5)...),
		"a frame with too much behind it":   laid(t, append(frameData(tickOf(5), nil), 0)),
		"a record whose data are too short": laid(t, frameData(tickOf(5), picksOf(1))[:30]),
	} {
		for keep := range ends[last] - ends[lasts] + 1 {
			_, s := grown(t, 3, lasts, last)
			was := s.Bytes()
			s.Crash(keep, junk)
			s.Restart()
			want := wholeIn(ends, alike(s.Bytes(), was)) // the junk may happen to be the bytes that were lost
			k := open(t, g, s)
			if k.History().Len() != want || k.Lasts() != want || sizeOf(s) != ends[want] {
				t.Fatalf("J6: %s behind %d bytes: %d frames, want %d", what, keep, k.History().Len(), want)
			}
			if keep%11 == 0 {
				wantFrames(t, what, k, all[:want+1])
			}
		}
	}
}

// alike tells how many bytes two have in common, from the first one on.
func alike(a, b []byte) int {
	n := 0
	for n < min(len(a), len(b)) && a[n] == b[n] {
		n++
	}
	return n
}

// TestRightJunk: J6 and P11 of DOC.md, if what stands behind the frames happens to be right records, the frames of these come up behind them, up to what is none.
func TestRightJunk(t *testing.T) {
	g := game(t, lively)
	all, ends := fold(t, g, 7), ends(t, 7)
	_, longer := grown(t, 3, 7, 7)
	b := longer.Bytes()
	for last := 2; last <= 5; last++ {
		for more := range ends[7] - ends[last] + 1 {
			j, s := grown(t, 3, 2, last)
			s.Crash(ends[7], append(slices.Clone(b[ends[last]:ends[last]+more]), 0x82, 1))
			s.Restart()
			want := wholeIn(ends, ends[last]+more)
			k := open(t, g, s)
			if k.History().Len() != want || sizeOf(s) != ends[want] || j.Lasts() != 2 {
				t.Fatalf("J6: behind %d frames and %d right bytes: %d frames, want %d", last, more, k.History().Len(), want)
			}
			if more%11 == 0 {
				wantFrames(t, "J6: of right junk", k, all[:want+1])
			}
		}
	}
	other := storeOf(t, slices.Concat(laid(t, gameData(g, 3), frameData(tickOf(1), nil)), laid(t, frameData(tickOf(5), picksOf(1)), frameData(api.Tick{}, nil))))
	if h := open(t, g, other).History(); h.Len() != 3 {
		t.Errorf("J6: of frames of other ticks %d come up", h.Len())
	}
}

// TestTurnedBytes: a journal of whose store a byte was turned is opened up to the frame ahead of the record in which it stands, or is none.
func TestTurnedBytes(t *testing.T) {
	const frames = 4
	g := game(t, lively)
	all, ends := fold(t, g, frames), ends(t, frames)
	_, s := grown(t, 3, frames, frames)
	right := s.Bytes()
	for at := range right {
		for _, mask := range []byte{1, 2, 4, 8, 16, 32, 64, 128, 255, 0x82} {
			b := slices.Clone(right)
			b[at] ^= mask
			z := storeOf(t, b)
			if at < ends[0] {
				if j, bad := journal.Open(g, z); j != nil || bad != api.ErrJournal || !bytes.Equal(z.Bytes(), b) {
					t.Errorf("J2: the byte %d of the game turned by %x: %v", at, mask, bad)
				}
				continue
			}
			want := wholeIn(ends, at)
			j := open(t, g, z)
			if j.History().Len() != want || sizeOf(z) != ends[want] {
				t.Errorf("J2: the byte %d turned by %x: %d frames, want %d", at, mask, j.History().Len(), want)
			}
			if mask == 4 && at%5 == 0 {
				wantFrames(t, "J2: of a turned byte", j, all[:want+1])
			}
		}
	}
}

// TestManyLives: J6 and P11 of DOC.md, one power failure behind the other, at any byte, with any loose bytes and any junk: each time the first frames come up, among them all that were synced.
func TestManyLives(t *testing.T) {
	const frames = 40
	g := game(t, lively)
	all := fold(t, g, frames)
	for seed := range 20 {
		r := rand.New(rand.NewSource(int64(seed)))
		s := storeOf(t, nil)
		j := create(t, g, s, 1+r.Intn(9))
		for lives := 0; j.History().Len() < frames && lives < 200; lives++ {
			surely, most := j.Lasts(), live(t, r, j, s, frames)
			surely = max(surely, j.Lasts())
			s.Restart()
			k, bad := journal.Open(g, s)
			if bad != api.OK {
				t.Fatalf("J6: Open: %v", bad)
			}
			if got := k.History().Len(); got < surely || got > most || got != k.Lasts() {
				t.Fatalf("J6: %d frames come up, %d were synced, %d recorded", got, surely, most)
			}
			if w, at := k.History().Now(); string(w.Snapshot()) != all[at] || at != k.Lasts() {
				t.Fatalf("J6: the world of frame %d, the last one, is another one", at)
			}
			if lives%8 == 0 {
				wantFrames(t, "J6", k, all[:k.History().Len()+1])
			}
			j = k
		}
	}
}

// live lets a journal go on until the power fails, and tells up to which frame was recorded, or being recorded.
func live(t *testing.T, r *rand.Rand, j *journal.Journal, s *store.Store, frames int) int {
	t.Helper()
	if r.Intn(2) == 0 {
		s.Fuse(r.Intn(400))
	}
	for {
		f := j.History().Len() + 1
		if f > frames {
			return frames
		}
		switch r.Intn(12) {
		case 0, 1:
			j.Sync()
		case 2:
			j.History().Seek(r.Intn(f))
		case 3:
			junk := make([]byte, r.Intn(40))
			r.Read(junk)
			s.Crash(r.Intn(200), junk)
			if bad := j.Sync(); bad != api.ErrDead {
				t.Fatalf("J4: Sync without power: %v", bad)
			}
			return f - 1
		default:
			switch _, bad := j.Record(tickOf(f), picksOf(f)); bad {
			case api.ErrDead:
				return f
			case api.OK:
			default:
				t.Fatalf("J3: Record of frame %d: %v", f, bad)
			}
		}
	}
}

// TestMadeTwice: J6, of a game in which nothing changes by chance, too: what is recorded, and what comes up, is one and the same at each frame, by any way.
func TestMadeTwice(t *testing.T) {
	for every := 1; every <= 6; every++ {
		j, s := grown(t, every, 0, 12)
		g := game(t, lively)
		k := open(t, g, s)
		for range 2 {
			if got, want := way(k.History()), way(j.History()); got != want {
				t.Fatalf("J6: every %d: the history that comes up answers otherwise", every)
			}
		}
	}
}

// TestOtherLength: a record of which a byte that tells its length was turned, and which was made to be another right one then: the frames ahead are as they were.
func TestOtherLength(t *testing.T) {
	g := game(t, lively)
	all, ends := fold(t, g, 2), ends(t, 2)
	_, s := grown(t, 3, 2, 2)
	outer, inner := madeForTwo(t)
	b := append(s.Bytes(), laid(t, outer)...)
	right := open(t, g, storeOf(t, b))
	tick, _, bad := right.History().Tick(3)
	if bad != api.OK || !bytes.Equal(frameData(tick, nil), outer) {
		t.Fatalf("the test's own frame comes up as %v, %v", tick, bad)
	}
	b[ends[2]+1] ^= 0x80
	if data, _ := rec.Get(b[ends[2]:]); !bytes.Equal(data, inner) {
		t.Fatalf("the test's own record, turned: % x, want % x", data, inner)
	}
	j := open(t, g, storeOf(t, b))
	for f := range all {
		if w, _, bad := j.History().Seek(f); bad != api.OK || string(w.Snapshot()) != all[f] {
			t.Errorf("J2: the world of frame %d, ahead of a record that was turned, is another one, %v", f, bad)
		}
	}
}

// madeForTwo makes data of 138 bytes whose record begins, if its length is turned to 10, with a right record of other data; both are frames.
func madeForTwo(t *testing.T) (outer, inner []byte) {
	t.Helper()
	for n := range 1 << 14 {
		seed, op := byte(n&0x7f), byte(n>>7)
		inner = []byte{seed, 0, 1, op, 0, 0, 1, 0, 0, 0}
		sum := pack.Sum(append([]byte{0x82, 10}, inner...))
		if sum&0xff != 1 { // the second byte of the longer length, behind which the longer sum begins
			continue
		}
		outer = append(slices.Clone(inner[1:]), 0, 0, 13)
		for range 11 {
			outer = append((&text{outer}).putInt(1<<62).b, 0)
		}
		outer = append(outer, 0, 0, 0, 0, 0)
		if withSum(outer, sum>>8|uint32(seed)<<24) {
			return outer, inner
		}
	}
	t.Fatal("the test's own data: there are none")
	return nil, nil
}

// withSum turns bits in the parts' kinds until the sum is the one that is wanted, and tells whether that goes: each bit turns the same bits of the sum, whatever the others are.
func withSum(data []byte, want uint32) bool {
	sum := func() uint32 { return pack.Sum(append([]byte{0x82, 0x8a, 1}, data...)) }
	turn := func(bits []int) {
		for _, bit := range bits {
			data[bit/8] ^= 1 << (bit % 8)
		}
	}
	was := sum()
	ways := map[int][]int{} // by the highest bit of the sum that they turn: which bits to turn
	turns := map[int]uint32{}
	reduce := func(mask uint32, way []int) (uint32, []int) {
		for mask != 0 {
			top := bits.Len32(mask)
			if ways[top] == nil {
				break
			}
			mask ^= turns[top]
			way = append(slices.Clone(way), ways[top]...)
		}
		return mask, way
	}
	for at := 12; at < 100; at++ {
		if data[at] < 0x80 { // the last byte of a number, or a row
			continue
		}
		for bit := range 7 {
			way := []int{at*8 + bit}
			turn(way)
			mask, way := reduce(sum()^was, way)
			turn([]int{at*8 + bit})
			if mask != 0 {
				top := bits.Len32(mask)
				ways[top], turns[top] = way, mask
			}
		}
	}
	left, way := reduce(was^want, nil)
	turn(way)
	return left == 0 && sum() == want
}
