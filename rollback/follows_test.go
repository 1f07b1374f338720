package rollback_test

import (
	"fmt"
	"math/rand"
	"testing"

	"hindcast/api"
	"hindcast/frame"
	"hindcast/pack"
	"hindcast/rollback"
)

// net is peers that play one game, and letters on their way, of which some are lost, doubled, or late.
type net struct {
	testing.TB
	r      *rand.Rand
	g      *frame.Game
	seed   int64
	peers  []*rollback.Peer
	mine   [][][]api.Input // what each peer has said, frame by frame
	way    []api.Letter
	sure   [][]string // the snapshots of each peer's sure worlds, by frames; empty, where it never was at that frame
	reach  int        // the least frame of all
	seen   map[string]int
	losing bool
}

func newNet(t testing.TB, g *frame.Game, peers int, seed int64, seen map[string]int) *net {
	n := &net{TB: t, r: rand.New(rand.NewSource(seed)), g: g, seed: seed, peers: newPeers(t, g, peers, seed), seen: seen, losing: true}
	n.mine, n.sure = make([][][]api.Input, peers), make([][]string, peers)
	return n
}

// someInputs are often those of the frame ahead, so that guesses are right at times.
func (n *net) someInputs(id int) []api.Input {
	if f := len(n.mine[id]); f > 0 && n.r.Intn(3) > 0 {
		return n.mine[id][f-1]
	}
	var list []api.Input
	for range n.r.Intn(4) {
		list = append(list, api.Input{Player: n.r.Intn(5), Key: n.r.Intn(4) - 1, Value: int64(n.r.Intn(50))})
	}
	return list
}

func (n *net) advance(id int) {
	list := n.someInputs(id)
	_, last := n.peers[id].Now()
	_, sure := n.peers[id].Sure()
	bad := n.peers[id].Advance(list)
	if want := last == sure+8; want != (bad == api.ErrWindow) || !want != (bad == api.OK) {
		n.Fatalf("G2: peer %d, at frame %d, sure of %d: %v", id, last, sure, bad)
	}
	if bad == api.OK {
		n.mine[id] = append(n.mine[id], list)
	}
	n.seen[fmt.Sprint("Advance ", int(bad))]++
}

// send puts a peer's letters on their way: each once, not at all, or several times.
func (n *net) send(id int) {
	for _, l := range n.peers[id].Letters() {
		times := 1
		if n.losing {
			times = []int{0, 0, 1, 1, 1, 2, 3}[n.r.Intn(7)]
		}
		for range times {
			n.way = append(n.way, l)
		}
		n.seen[fmt.Sprint("letter ", times)]++
		if len(l.Inputs) == 16 {
			n.seen["sixteen frames"]++
		}
	}
}

// arrive lets one letter come, any of them.
func (n *net) arrive() {
	if len(n.way) == 0 {
		return
	}
	i := n.r.Intn(len(n.way))
	l := n.way[i]
	n.way = append(n.way[:i:i], n.way[i+1:]...)
	was := n.peers[l.To].Back()
	if bad := n.peers[l.To].Hear(l); bad != api.OK {
		n.Fatalf("G3: what one tells the other one refuses: %v: %v", l, bad)
	}
	if n.peers[l.To].Back() > was {
		n.seen["made anew"]++
	}
}

// happen is anything.
func (n *net) happen() {
	id := n.r.Intn(len(n.peers))
	switch n.r.Intn(5) {
	case 0, 1:
		n.advance(id)
	case 2:
		n.send(id)
	default:
		n.arrive()
	}
}

// look holds what never may be otherwise: nobody is apart, nobody too far ahead, and what is sure never changes.
func (n *net) look() {
	n.reach = 1 << 30
	for id, p := range n.peers {
		_, last := p.Now()
		w, sure := p.Sure()
		if last != len(n.mine[id]) || sure > last || last > sure+8 {
			n.Fatalf("G5: peer %d, which advanced %d times, is at frame %d, sure of %d", id, len(n.mine[id]), last, sure)
		}
		if is, at := p.Apart(); is || at != 0 {
			n.Fatalf("P12: peer %d is apart at %d", id, at)
		}
		for len(n.sure[id]) <= sure {
			n.sure[id] = append(n.sure[id], "")
		}
		is := string(w.Snapshot())
		if was := n.sure[id][sure]; was != "" && was != is {
			n.Fatalf("P12: the world of frame %d, of which peer %d is sure, changes", sure, id)
		}
		n.sure[id][sure] = is
		n.reach = min(n.reach, last)
	}
}

// game is that in which nothing is guessed: all snapshots up to the frame that all have reached.
func (n *net) game() []string {
	var frames [][][]api.Input
	for f := range n.reach {
		var lists [][]api.Input
		for id := range n.peers {
			lists = append(lists, n.mine[id][f])
		}
		frames = append(frames, lists)
	}
	return fold(n, n.g, n.seed, frames...)
}

// wantOne holds all sure worlds that were seen against the game in which nothing is guessed.
func (n *net) wantOne() {
	worlds := n.game()
	for id, all := range n.sure {
		for f, is := range all {
			if is != "" && is != worlds[f] {
				n.Fatalf("P12: the world of frame %d, of which peer %d is sure, is not that of a game in which nothing is guessed", f, id)
			}
		}
	}
}

// end lets a letter of each come to each other one.
func (n *net) end() {
	for range 2 {
		for id := range n.peers {
			n.losing = false
			n.send(id)
		}
		for len(n.way) > 0 {
			n.arrive()
		}
	}
	n.look()
	for id, p := range n.peers {
		if _, sure := p.Sure(); sure != n.reach {
			n.Fatalf("P12: peer %d is sure of %d, the least frame is %d", id, sure, n.reach)
		}
	}
}

// TestPeersAreOne: P12 of DOC.md (TopPeers), whatever letters are lost, doubled or late, all that is sure is one, and that of a game in which nothing is guessed; and if letters come in the end, all frames come to be sure.
func TestPeersAreOne(t *testing.T) {
	g := game(t, lively)
	seen := map[string]int{}
	for seed := range 24 {
		n := newNet(t, g, 1+seed%4, int64(seed), seen)
		for range 30 + seed*12 {
			n.happen()
			n.look()
		}
		n.end()
		n.wantOne()
		for range 60 {
			n.happen()
			n.look()
		}
		n.end()
		n.wantOne()
	}
	for _, what := range []string{"Advance 0", "Advance 241", "letter 0", "letter 1", "letter 3", "made anew"} {
		if seen[what] < 100 {
			t.Errorf("the test's own net: %s was seen %d times", what, seen[what])
		}
	}
}

// TestOneLetterIsEnough: what follows: if each hears one letter of each other one behind its last Advance, all are sure up to the least frame, whatever was lost.
func TestOneLetterIsEnough(t *testing.T) {
	g := game(t, lively)
	for seed := range 15 {
		r := rand.New(rand.NewSource(int64(seed)))
		n := newNet(t, g, 2+seed%3, int64(seed), map[string]int{})
		for range 4 {
			for range 80 {
				n.happen()
			}
			n.way = nil // all that is late is lost
			n.losing = false
			for _, id := range r.Perm(len(n.peers)) {
				n.send(id)
			}
			for len(n.way) > 0 {
				n.arrive()
			}
			n.losing = true
			n.look()
			for id, p := range n.peers {
				if _, sure := p.Sure(); sure != n.reach {
					t.Fatalf("P12: peer %d is sure of %d, the least frame is %d", id, sure, n.reach)
				}
			}
		}
		n.wantOne()
	}
}

// TestSixteenAreEnough: G4, one may have made sixteen frames more than another one has said that it knows; a letter tells of all of them.
func TestSixteenAreEnough(t *testing.T) {
	g := game(t, lively)
	peers := newPeers(t, g, 2, 0)
	a, b := peers[0], peers[1]
	for f := range 8 {
		advance(t, a, says(int64(f)))
	}
	hear(t, b, a.Letters()...)
	for f := range 16 {
		advance(t, b, append(says(int64(f)), in(-1, int64(f))))
	}
	hear(t, a, b.Letters()...) // b is at 16, sure of 8: it knows all of a
	a.Letters()                // lost
	if bad := b.Advance(nil); bad != api.ErrWindow {
		t.Errorf("G2: b is 8 ahead of what it knows: %v", bad)
	}
	for f := range 16 {
		advance(t, a, says(int64(f)))
	}
	l := a.Letters()[0]
	if l.First != 9 || len(l.Inputs) != 16 || l.Seen != 16 {
		t.Errorf("G4: %d frames from %d on, Seen %d", len(l.Inputs), l.First, l.Seen)
	}
	hear(t, b, l)
	if _, sure := b.Sure(); sure != 16 {
		t.Errorf("G5: b is sure of %d", sure)
	}
	deliver(t, peers)
	if a.Advance(nil) != api.ErrWindow {
		t.Errorf("G2: a is 8 ahead of what it knows")
	}
}

// TestExample: the examples of the chapter.
func TestExample(t *testing.T) {
	g := game(t, lively)
	peers := newPeers(t, g, 2, 0)
	a, b := peers[0], peers[1]
	advance(t, a, []api.Input{{Key: 1, Value: 5}})
	start := fold(t, g, 0)
	first := fold(t, g, 0, of(says(5), nil))
	wantNow(t, "peer 0", a, first)
	wantSure(t, "peer 0", a, first, 0)
	l := a.Letters()
	if want := fmt.Sprint([]api.Letter{{From: 0, To: 1, First: 1, Inputs: of([]api.Input{{Key: 1, Value: 5}}), Sum: pack.Sum([]byte(start[0]))}}); fmt.Sprint(l) != want {
		t.Errorf("G4: %v, want %s", l, want)
	}
	advance(t, b, nil)
	wantNow(t, "peer 1, which guesses none", b, fold(t, g, 0, of(nil, nil)))
	hear(t, b, l[0])
	wantBack(t, "peer 1", b, 1)
	wantSure(t, "peer 1", b, first, 1)
	advance(t, b, nil)
	wantNow(t, "peer 1, which guesses the same", b, fold(t, g, 0, of(says(5), nil), of(says(5), nil)))
	for range 7 {
		advance(t, a, nil)
	}
	if bad := a.Advance(nil); bad != api.ErrWindow {
		t.Errorf("G2: the ninth one: %v", bad)
	}
	wantRefused(t, a, api.Letter{From: 1, First: 3}, api.ErrWindow)
	wantRefused(t, a, api.Letter{From: 1, First: 1, Seen: 9}, api.ErrArg)
	wantRefused(t, a, api.Letter{From: 0, First: 1}, api.ErrPeer)
}

// TestWholeExample: the example 10 of DOC.md.
func TestWholeExample(t *testing.T) {
	g := game(t, `
system Move reads Vel writes Pos { Pos.x = Pos.x + Vel.x; }
system Ring without Mark reads Pos { if Pos.x > 8 { emit Pos.x, me; add Mark{}; } }
func twice(n) { return n * 2; }
`, api.Kind{Name: "Pos", Fields: []string{"x", "y"}}, api.Kind{Name: "Vel", Fields: []string{"x"}}, api.Kind{Name: "Mark"})
	peers := newPeers(t, g, 2, 0)
	a, b := peers[0], peers[1]
	advance(t, a, []api.Input{{Key: -1, Value: 7}})
	advance(t, b, nil)
	hear(t, b, a.Letters()[0])
	wantBack(t, "peer 1", b, 1)
	w, sure := b.Sure()
	if sure != 1 {
		t.Errorf("G5: peer 1 is sure of %d", sure)
	}
	x, _ := a.Now()
	for _, rows := range [][]api.Row{w.Rows(), x.Rows()} {
		if fmt.Sprint(rows) != "[{{0 1} [{1 [14 7]} {2 [7]} {3 []}]}]" {
			t.Errorf("G5: %v", rows)
		}
	}
	if string(w.Snapshot()) != string(x.Snapshot()) {
		t.Errorf("P12: the worlds of frame 1 are not one")
	}
}
