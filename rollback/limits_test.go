package rollback_test

import (
	"fmt"
	"runtime"
	"slices"
	"testing"

	"hindcast/api"
	"hindcast/rollback"
)

// tally is a game with nobody in it but who comes; of it a frame is made fast.
const tally = `system Add writes Life { Life.n = Life.n + input(0, 1) + 10 * input(1, 1) + 100 * input(2, 1) + 1000 * input(3, 1); }`

// TestMostFrames: G2, a peer has at most 5000 frames, and no more, whatever is known; that is told ahead of a window that is too narrow.
func TestMostFrames(t *testing.T) {
	g := game(t, tally)
	for peers := 1; peers <= 4; peers++ {
		p := newPeer(t, g, 0, peers, 0)
		for f := 1; f <= 5000; f++ {
			list := says(1)
			if f == 1 {
				list = append(list, in(-1, 0))
			}
			advance(t, p, list)
			if f > 4992 {
				continue // from here on nothing is heard: in the end the window is full, too
			}
			for from := 1; from < peers; from++ {
				hear(t, p, api.Letter{From: from, First: f, Inputs: of(says(1)), Seen: f})
			}
		}
		full := func() {
			t.Helper()
			was := told(p)
			for _, n := range []int{0, 1, 8} {
				if bad := p.Advance(make([]api.Input, n)); bad != api.ErrFull {
					t.Errorf("G2: a frame more than 5000, of %d peers: %v", peers, bad)
				}
			}
			if bad := p.Advance(make([]api.Input, 9)); bad != api.ErrArg {
				t.Errorf("G2: a frame more than 5000, of %d peers, by nine inputs: %v", peers, bad)
			}
			if is := told(p); is != was {
				t.Errorf("P2: a frame more than may be changes something: %s, want %s", is, was)
			}
		}
		full()
		for from := 1; from < peers; from++ {
			hear(t, p, letter(from, 4993, slices.Repeat(of(says(1)), 16)...))
			wantRefused(t, p, letter(from, 5009, nil), api.ErrWindow)
		}
		full()
		w, sure := p.Sure()
		want := []int{0, 5000, 5000 * 11, 5000 * 111, 5000 * 1111}[peers]
		if rows := fmt.Sprint(w.Rows()); sure != 5000 || rows != fmt.Sprintf("[{{0 1} [{1 [0 0]} {2 []} {3 [%d]}]}]", want) {
			t.Errorf("G5: the last frame of %d peers: %d, %s", peers, sure, rows)
		}
		wantBack(t, "all was guessed right, but the first frame", p, peers-1)
	}
}

// TestMostInputs: G2 and G3, four peers with eight inputs each, each of whom somebody comes by.
func TestMostInputs(t *testing.T) {
	g := game(t, lively)
	p := newPeer(t, g, 3, 4, 0)
	var frames [][][]api.Input
	for f := range 20 {
		var lists [][]api.Input
		for q := range 4 {
			var list []api.Input
			for k := range 8 {
				list = append(list, in(-1-k, int64(f*100+q*10+k)))
			}
			lists = append(lists, list)
		}
		frames = append(frames, lists)
		advance(t, p, lists[3])
		for q := range 3 {
			hear(t, p, api.Letter{From: q, To: 3, First: f + 1, Inputs: lists[q : q+1]})
		}
	}
	worlds := fold(t, g, 0, frames...)
	wantNow(t, "eight inputs each", p, worlds)
	wantSure(t, "eight inputs each", p, worlds, 20)
}

// TestLongLetters: G3, a letter may tell of all frames from the first one on; what is known is let be.
func TestLongLetters(t *testing.T) {
	g := game(t, tally)
	p := newPeer(t, g, 0, 2, 0)
	lists := slices.Repeat(of(says(2)), 1500+8)
	for f := 1; f <= 1500; f++ {
		advance(t, p, nil)
		if f%7 == 0 {
			hear(t, p, letter(1, 1, lists[:f+f%8]...))
		}
	}
	hear(t, p, letter(1, 1, lists...))
	wantRefused(t, p, letter(1, 1, append(lists, nil)...), api.ErrWindow)
	if _, sure := p.Sure(); sure != 1500 {
		t.Errorf("G5: sure of %d", sure)
	}
}

// TestManyBacks: G6, frames are counted each time they are made anew.
func TestManyBacks(t *testing.T) {
	p := newPeer(t, game(t, tally), 0, 2, 0)
	advance(t, p, slices.Repeat(of(nil), 8)...)
	want := 8
	hear(t, p, letter(1, 1, says(0)))
	for f := 2; f <= 4000; f++ {
		wantBack(t, "again and again", p, want)
		hear(t, p, letter(1, f, says(int64(f))))
		want += 7
		advance(t, p, nil)
	}
	wantBack(t, "again and again", p, want)
}

// held tells how many bytes are held by what a call makes.
func held(make func() *rollback.Peer) (*rollback.Peer, int64) {
	var was, is runtime.MemStats
	runtime.GC()
	runtime.ReadMemStats(&was)
	p := make()
	runtime.GC()
	runtime.ReadMemStats(&is)
	return p, int64(is.HeapAlloc) - int64(was.HeapAlloc)
}

// TestKeepsLittle: no more is kept than the promises need: of frames that all are sure of, and have been told of, their sums alone; and of who plays alone nothing.
func TestKeepsLittle(t *testing.T) {
	g := game(t, tally)
	made := func(peers, frames int) func() *rollback.Peer {
		return func() *rollback.Peer {
			p := newPeer(t, g, 0, peers, 0)
			list := slices.Repeat(says(3), 8)
			for f := 1; f <= frames; f++ {
				advance(t, p, list)
				for from := 1; from < peers; from++ {
					hear(t, p, api.Letter{From: from, First: f, Inputs: of(list), Seen: f})
				}
			}
			return p
		}
	}
	for peers := 1; peers <= 4; peers++ {
		few, little := held(made(peers, 50))
		many, much := held(made(peers, 4000))
		most := int64(4000 * 8) // an uint32 a frame, in a list that may be half empty
		if peers == 1 {
			most = 4000
		}
		if much-little > most {
			t.Errorf("of %d peers: behind 4000 frames one holds %d bytes, behind 50 %d", peers, much, little)
		}
		runtime.KeepAlive(few)
		runtime.KeepAlive(many)
	}
}

// TestKeepsWhatWasNotTold: G4, what another one has not said to know is kept, however long ago it was.
func TestKeepsWhatWasNotTold(t *testing.T) {
	p := newPeer(t, game(t, tally), 0, 3, 0)
	for f := 1; f <= 3000; f++ {
		advance(t, p, says(int64(f)))
		hear(t, p, letter(1, f, nil), api.Letter{From: 2, First: f, Inputs: of(nil), Seen: f})
	}
	for f := 0; f <= 3000; f += 13 {
		hear(t, p, api.Letter{From: 1, First: 1, Seen: f})
		letters := p.Letters()
		if l := letters[0]; l.First != f+1 || len(l.Inputs) != min(16, 3000-f) || len(l.Inputs) > 0 && l.Inputs[0][0].Value != int64(f+1) {
			t.Fatalf("G4: what is told behind frame %d: %v", f, l)
		}
		if l := letters[1]; l.First != 3001 || len(l.Inputs) != 0 {
			t.Fatalf("G4: what is told to who knows all: %v", l)
		}
	}
}
