package rollback_test

import (
	"fmt"
	"math"
	"slices"
	"testing"

	"hindcast/api"
	"hindcast/check"
	"hindcast/compile"
	"hindcast/frame"
	"hindcast/pack"
	"hindcast/rollback"
	"hindcast/syntax"
)

// three are the kinds of most games here: 1 is Pos, 2 is Mark, 3 is Life.
func three() []api.Kind {
	return []api.Kind{{Name: "Pos", Fields: []string{"x", "y"}}, {Name: "Mark"}, {Name: "Life", Fields: []string{"n"}}}
}

// lively is a game in which all hangs on everything: on the inputs of all players, on the frame's number, on chance. Who is there comes, goes, and is cut off.
const lively = `
system Say writes Pos { Pos.x = Pos.x * 3 + input(0, 1) + 5 * input(1, 1) + 7 * input(2, 1) + 11 * input(3, 1) + tick; Pos.y = Pos.y + rand(9); }
system Age writes Life { Life.n = Life.n - 1; if Life.n % 7 == 0 { die; } if rand(12) == 0 { spawn Pos{x: me, y: tick}, Life{n: 2 + rand(6)}; } }
system Ring with Mark reads Pos { emit Pos.x, rand(10); if rand(6) == 0 { remove Mark; } if Pos.y % 19 == 3 { while 1 == 1 { } } }
`

func game(t testing.TB, source string, kinds ...api.Kind) *frame.Game {
	t.Helper()
	if len(kinds) == 0 {
		kinds = three()
	}
	tree, err := syntax.Parse(source)
	if err != nil {
		t.Fatalf("the test's own source: %v", err)
	}
	c, err := check.Check(tree, kinds)
	if err != nil {
		t.Fatalf("the test's own source: %v", err)
	}
	program, bad := compile.Compile(c)
	if bad != api.OK {
		t.Fatalf("the test's own source: %v", bad)
	}
	g, bad := frame.New(kinds, program)
	if bad != api.OK {
		t.Fatalf("the test's own game: %v", bad)
	}
	return g
}

func newPeer(t testing.TB, g *frame.Game, id, peers int, seed int64) *rollback.Peer {
	t.Helper()
	p, bad := rollback.New(g, id, peers, seed)
	if bad != api.OK || p == nil {
		t.Fatalf("G1: New(%d, %d): %v", id, peers, bad)
	}
	return p
}

// newPeers are all peers of a game.
func newPeers(t testing.TB, g *frame.Game, peers int, seed int64) []*rollback.Peer {
	t.Helper()
	var all []*rollback.Peer
	for id := range peers {
		all = append(all, newPeer(t, g, id, peers, seed))
	}
	return all
}

// in is an input that is named as somebody else's, which must not count.
func in(key int, value int64) api.Input { return api.Input{Player: 99, Key: key, Value: value} }

// says is what a player says in a frame: the input of key 1, to which the lively game listens.
func says(value int64) []api.Input { return []api.Input{in(1, value)} }

// letter is one to peer 0, which tells of these frames' inputs.
func letter(from, first int, lists ...[]api.Input) api.Letter {
	return api.Letter{From: from, First: first, Inputs: lists}
}

func advance(t testing.TB, p *rollback.Peer, lists ...[]api.Input) {
	t.Helper()
	for _, list := range lists {
		if bad := p.Advance(list); bad != api.OK {
			t.Fatalf("G2: Advance: %v", bad)
		}
	}
}

func hear(t testing.TB, p *rollback.Peer, letters ...api.Letter) {
	t.Helper()
	for _, l := range letters {
		if bad := p.Hear(l); bad != api.OK {
			t.Fatalf("G3: Hear(%v): %v", l, bad)
		}
	}
}

// deliver hands what each of the first peers sends to the others of these.
func deliver(t testing.TB, peers []*rollback.Peer) {
	t.Helper()
	for _, p := range peers {
		for _, l := range p.Letters() {
			if l.To < len(peers) {
				hear(t, peers[l.To], l)
			}
		}
	}
}

// tickOf is the tick of these inputs, a list a player, as the chapter's words say it for the three kinds.
func tickOf(seed int64, lists ...[]api.Input) api.Tick {
	tick := api.Tick{Seed: seed}
	for q, list := range lists {
		for _, x := range list {
			tick.Inputs = append(tick.Inputs, api.Input{Player: q, Key: x.Key, Value: x.Value})
			if x.Key < 0 {
				v := x.Value
				parts := []api.Part{{Kind: 1, Values: []int64{v, v}}, {Kind: 2}, {Kind: 3, Values: []int64{v}}}
				tick.Asks = append(tick.Asks, api.Command{Op: api.OpSpawn, Parts: parts})
			}
		}
	}
	return tick
}

// fold are the snapshots of the worlds to which frames lead, the one of frame 0 first: of each frame a list a player.
func fold(t testing.TB, g *frame.Game, seed int64, frames ...[][]api.Input) []string {
	t.Helper()
	w := g.Start()
	all := []string{string(w.Snapshot())}
	for i, lists := range frames {
		next, _, bad := g.Step(w, i+1, tickOf(seed, lists...), nil)
		if bad != api.OK {
			t.Fatalf("the test's own frame %d: %v", i+1, bad)
		}
		w = next
		all = append(all, string(w.Snapshot()))
	}
	return all
}

// of is a frame: a list a player.
func of(lists ...[]api.Input) [][]api.Input { return lists }

// wantNow holds the world that is shown against the last one of some.
func wantNow(t testing.TB, what string, p *rollback.Peer, worlds []string) {
	t.Helper()
	w, n := p.Now()
	if n != len(worlds)-1 {
		t.Errorf("G5: %s: Now is at frame %d, want %d", what, n, len(worlds)-1)
	} else if string(w.Snapshot()) != worlds[n] {
		t.Errorf("G5: %s: the world of frame %d is another one: %v", what, n, w.Rows())
	}
}

func wantSure(t testing.TB, what string, p *rollback.Peer, worlds []string, want int) {
	t.Helper()
	w, f := p.Sure()
	if f != want {
		t.Errorf("G5: %s: Sure is at frame %d, want %d", what, f, want)
	} else if string(w.Snapshot()) != worlds[f] {
		t.Errorf("G5: %s: the world of frame %d, which is sure, is another one: %v", what, f, w.Rows())
	}
}

func wantBack(t testing.TB, what string, p *rollback.Peer, want int) {
	t.Helper()
	if got := p.Back(); got != want {
		t.Errorf("G6: %s: Back is %d, want %d", what, got, want)
	}
}

// wantApart holds at which frame two are apart; 0: they are not.
func wantApart(t testing.TB, what string, p *rollback.Peer, want int) {
	t.Helper()
	if is, at := p.Apart(); is != (want > 0) || at != want {
		t.Errorf("G6: %s: Apart: %v, %d, want %d", what, is, at, want)
	}
}

// told writes all that a peer tells.
func told(p *rollback.Peer) string {
	w, n := p.Now()
	s, sure := p.Sure()
	is, at := p.Apart()
	return fmt.Sprintf("now %d %x; sure %d %x; back %d; apart %v %d; %v", n, w.Snapshot(), sure, s.Snapshot(), p.Back(), is, at, p.Letters())
}

// wantRefused holds that a letter is refused, and changes nothing.
func wantRefused(t testing.TB, p *rollback.Peer, l api.Letter, want api.Errno) {
	t.Helper()
	was := told(p)
	if bad := p.Hear(l); bad != want {
		t.Errorf("G3: Hear(%v): %v, want %v", l, bad, want)
	}
	if is := told(p); is != was {
		t.Errorf("P2: a letter that is refused (%v) changes something: %s, want %s", want, is, was)
	}
}

// TestNew: G1, which numbers are taken, and what a peer is at first.
func TestNew(t *testing.T) {
	g := game(t, lively)
	for peers := -1; peers <= 6; peers++ {
		for id := -2; id <= 6; id++ {
			want := api.ErrArg
			if peers >= 1 && peers <= 4 && id >= 0 && id < peers {
				want = api.OK
			}
			p, bad := rollback.New(g, id, peers, 5)
			if bad != want || (p == nil) != (bad != api.OK) {
				t.Errorf("G1: New(%d, %d): %v, want %v", id, peers, bad, want)
			}
			if p == nil {
				continue
			}
			start := fold(t, g, 5)
			wantNow(t, "a new peer", p, start)
			wantSure(t, "a new peer", p, start, 0)
			wantBack(t, "a new peer", p, 0)
			wantApart(t, "a new peer", p, 0)
		}
	}
	for _, row := range []struct {
		g         *frame.Game
		id, peers int
	}{
		{nil, 0, 1}, {nil, 1, 2}, {nil, 5, 9}, {g, math.MinInt, 2}, {g, math.MaxInt, 2}, {g, 0, math.MaxInt}, {g, 0, math.MinInt},
		{g, math.MaxInt, math.MaxInt}, {g, math.MaxInt - 1, math.MaxInt}, {g, math.MinInt, math.MinInt}, {g, 4, 5}, {g, -1, 0},
	} {
		if p, bad := rollback.New(row.g, row.id, row.peers, 0); p != nil || bad != api.ErrArg {
			t.Errorf("G1: New(%v, %d, %d): %v", row.g != nil, row.id, row.peers, bad)
		}
	}
}

// TestAdvance: G2, one frame more each time, by the own inputs: none up to eight.
func TestAdvance(t *testing.T) {
	g := game(t, lively)
	for peers := 1; peers <= 4; peers++ {
		for id := range peers {
			p := newPeer(t, g, id, peers, 3)
			var frames [][][]api.Input
			for f := range 8 {
				list := []api.Input{in(-1, int64(f))}
				for k := range f {
					list = append(list, in(1, int64(k*f)))
				}
				if f == 6 {
					list = nil
				}
				advance(t, p, list)
				lists := make([][]api.Input, peers)
				lists[id] = list
				frames = append(frames, lists)
				what := fmt.Sprintf("peer %d of %d", id, peers)
				worlds := fold(t, g, 3, frames...)
				wantNow(t, what, p, worlds)
				sure := 0
				if peers == 1 {
					sure = f + 1
				}
				wantSure(t, what, p, worlds, sure)
			}
			wantBack(t, "nothing was heard", p, 0)
		}
	}
}

// TestAdvanceTooMany: G2, nine inputs and more are refused, whatever else is wrong; then nothing is changed.
func TestAdvanceTooMany(t *testing.T) {
	p := newPeer(t, game(t, lively), 0, 2, 3)
	refused := func(n int, want api.Errno) {
		t.Helper()
		was := told(p)
		if bad := p.Advance(make([]api.Input, n)); bad != want {
			t.Errorf("G2: Advance by %d inputs: %v, want %v", n, bad, want)
		}
		if is := told(p); is != was {
			t.Errorf("P2: an Advance that is refused changes something: %s, want %s", is, was)
		}
	}
	for f := range 8 {
		for _, n := range []int{9, 10, 32, 100000} {
			refused(n, api.ErrArg)
		}
		advance(t, p, slices.Repeat([]api.Input{in(-1, int64(f))}, 8))
	}
	refused(9, api.ErrArg)
	for _, n := range []int{0, 1, 8} {
		refused(n, api.ErrWindow)
	}
}

// TestAdvanceWindow: G2, one is at most eight frames ahead of the least that is known, whoever it is known of; who plays alone may always go on.
func TestAdvanceWindow(t *testing.T) {
	g := game(t, lively)
	for peers := 2; peers <= 4; peers++ {
		p := newPeer(t, g, 0, peers, 1)
		known := make([]int, peers)
		for round := range 60 {
			n, sure := 0, 5000
			for _, k := range known[1:] {
				sure = min(sure, k)
			}
			for ; p.Advance(says(int64(round))) == api.OK; n++ {
				if n > 8 {
					t.Fatalf("G2: %d peers: one may always go on", peers)
				}
			}
			_, last := p.Now()
			if bad := p.Advance(nil); bad != api.ErrWindow || last != sure+8 {
				t.Fatalf("G2: %d peers, sure of %d: at frame %d: %v", peers, sure, last, bad)
			}
			from := 1 + round*7%(peers-1)
			more := min(round%5, last+8-known[from])
			hear(t, p, letter(from, known[from]+1, slices.Repeat([][]api.Input{says(int64(round % 3))}, more)...))
			known[from] += more
		}
	}
	alone := newPeer(t, g, 0, 1, 1)
	for range 100 {
		advance(t, alone, says(4))
	}
}

// TestPeers: G3, a letter is another one's, and to oneself; else it is refused, whatever else is wrong.
func TestPeers(t *testing.T) {
	g := game(t, lively)
	for peers := 1; peers <= 4; peers++ {
		for id := range peers {
			p := newPeer(t, g, id, peers, 0)
			advance(t, p, says(1), says(2))
			for _, from := range []int{-1, 0, 1, 2, 3, 4, 5, math.MinInt, math.MaxInt} {
				for _, to := range []int{-1, 0, 1, 2, 3, 4, 5, math.MinInt, math.MaxInt} {
					if right := to == id && from != id && from >= 0 && from < peers; right {
						hear(t, p, api.Letter{From: from, To: to, First: 1})
						continue
					}
					for _, l := range []api.Letter{{First: 1}, {}, {First: 9, Seen: 99, Checked: -1, Inputs: [][]api.Input{make([]api.Input, 9)}}} {
						l.From, l.To = from, to
						wantRefused(t, p, l, api.ErrPeer)
					}
				}
			}
		}
	}
}

// TestWrongLetters: G3, what a letter may not tell, and which error comes first.
func TestWrongLetters(t *testing.T) {
	g := game(t, lively)
	p := newPeer(t, g, 0, 3, 0)
	advance(t, p, says(1), says(2), says(3))
	hear(t, p, letter(1, 1, says(5), says(6)))
	nine := make([]api.Input, 9)
	for _, c := range []struct {
		what string
		l    api.Letter
		want api.Errno
	}{
		{"First 0", api.Letter{First: 0}, api.ErrArg},
		{"First -1", api.Letter{First: -1}, api.ErrArg},
		{"the least First", api.Letter{First: math.MinInt}, api.ErrArg},
		{"the least First, with inputs", api.Letter{First: math.MinInt, Inputs: make([][]api.Input, 3)}, api.ErrArg},
		{"First 0, and one list", api.Letter{First: 0, Inputs: make([][]api.Input, 1)}, api.ErrArg},
		{"nine inputs", api.Letter{First: 1, Inputs: [][]api.Input{nine}}, api.ErrArg},
		{"nine inputs of a frame that is not known yet", api.Letter{First: 1, Inputs: [][]api.Input{nil, nil, nine}}, api.ErrArg},
		{"nine inputs, last", api.Letter{First: 1, Inputs: [][]api.Input{nil, nil, nil, nil, nine}}, api.ErrArg},
		{"very many inputs", api.Letter{First: 3, Inputs: [][]api.Input{make([]api.Input, 100000)}}, api.ErrArg},
		{"nine inputs, behind the window", api.Letter{First: 1, Inputs: append(make([][]api.Input, 40), nine)}, api.ErrArg},
		{"Seen -1", api.Letter{First: 1, Seen: -1}, api.ErrArg},
		{"the least Seen", api.Letter{First: 1, Seen: math.MinInt}, api.ErrArg},
		{"Seen above the last frame", api.Letter{First: 1, Seen: 4}, api.ErrArg},
		{"the greatest Seen", api.Letter{First: 1, Seen: math.MaxInt}, api.ErrArg},
		{"Seen above the last frame, and First too great", api.Letter{First: 9, Seen: 4}, api.ErrArg},
		{"Checked -1", api.Letter{First: 1, Checked: -1}, api.ErrArg},
		{"the least Checked", api.Letter{First: 1, Checked: math.MinInt}, api.ErrArg},
		{"Checked -1, and too many frames", api.Letter{First: 1, Checked: -1, Inputs: make([][]api.Input, 12)}, api.ErrArg},
		{"a frame is left out", api.Letter{First: 4}, api.ErrWindow},
		{"a frame is left out, with inputs", api.Letter{First: 4, Inputs: make([][]api.Input, 1)}, api.ErrWindow},
		{"the greatest First", api.Letter{First: math.MaxInt}, api.ErrWindow},
		{"the greatest First, with inputs", api.Letter{First: math.MaxInt, Inputs: make([][]api.Input, 3)}, api.ErrWindow},
		{"up to frame 12", api.Letter{First: 1, Inputs: make([][]api.Input, 12)}, api.ErrWindow},
		{"up to frame 12, from frame 3 on", api.Letter{First: 3, Inputs: make([][]api.Input, 10)}, api.ErrWindow},
		{"very many frames", api.Letter{First: 1, Inputs: make([][]api.Input, 1000000)}, api.ErrWindow},
	} {
		t.Run(c.what, func(t *testing.T) {
			c.l.From = 1
			wantRefused(t, p, c.l, c.want)
		})
	}
	for _, l := range []api.Letter{
		{From: 1, First: 1}, {From: 1, First: 3}, {From: 1, First: 3, Seen: 3}, {From: 1, First: 2, Checked: math.MaxInt}, {From: 2, First: 1},
		{From: 1, First: 3, Inputs: [][]api.Input{make([]api.Input, 8)}}, {From: 1, First: 1, Inputs: make([][]api.Input, 11)}, {From: 2, First: 1, Inputs: make([][]api.Input, 11)},
	} {
		hear(t, p, l)
	}
	wantRefused(t, p, letter(1, 12, nil), api.ErrWindow)
	wantRefused(t, p, letter(1, 13), api.ErrWindow)
	hear(t, p, letter(1, 12), letter(1, 11, nil))
	advance(t, p, nil)
	wantRefused(t, p, letter(1, 13, nil), api.ErrWindow)
	hear(t, p, letter(1, 12, nil))
}

// TestHear: G3, what is told becomes known frame by frame, however the letters overlap; what is known already is let be.
func TestHear(t *testing.T) {
	g := game(t, lively)
	p := newPeer(t, g, 0, 2, 9)
	mine := [][]api.Input{append(says(1), in(-5, 20)), says(2), says(3), nil, says(5), says(6)}
	advance(t, p, mine...)
	lists := [][]api.Input{says(11), says(12), append(says(13), in(-1, 30)), nil, says(15), says(16), says(17)}
	see := func(known int, rest []api.Input) []string {
		var frames [][][]api.Input
		for f, list := range mine {
			other := rest
			if f < known {
				other = lists[f]
			}
			frames = append(frames, of(list, other))
		}
		return fold(t, g, 9, frames...)
	}
	wantNow(t, "nothing is known", p, see(0, nil))
	for _, c := range []struct {
		what  string
		l     api.Letter
		known int
		guess []api.Input
		back  int
	}{
		{"the first frame", letter(1, 1, lists[0]), 1, lists[0], 6},
		{"once more", letter(1, 1, lists[0]), 1, lists[0], 6},
		{"no frame, behind what is known", letter(1, 2), 1, lists[0], 6},
		{"no frame, ahead of it", letter(1, 1), 1, lists[0], 6},
		{"two more, and the first one", letter(1, 1, lists[:3]...), 3, lists[2], 11},
		{"what is known already, otherwise", letter(1, 1, says(77), nil, says(79)), 3, lists[2], 11},
		{"what is known already, otherwise, and one more", letter(1, 2, says(77), nil, lists[3]), 4, lists[3], 14},
		{"the next two", letter(1, 5, lists[4:6]...), 6, nil, 16},
		{"one ahead of oneself", letter(1, 6, nil, lists[6]), 7, nil, 16},
		{"all, otherwise", letter(1, 1, make([][]api.Input, 7)...), 7, nil, 16},
	} {
		hear(t, p, c.l)
		worlds := see(c.known, c.guess)
		wantNow(t, c.what, p, worlds)
		wantSure(t, c.what, p, worlds, min(c.known, len(mine)))
		wantBack(t, c.what, p, c.back)
	}
	mine = append(mine, says(7), says(8))
	advance(t, p, mine[6:]...)
	wantNow(t, "what was known ahead of it, and then a guess", p, see(7, lists[6]))
	wantSure(t, "what was known ahead of it", p, see(7, lists[6]), 7)
	wantBack(t, "nothing was made anew", p, 16)
}

// TestGuess: the chapter's words, a guess is what the peer said in the last frame that is known, all of it: inputs, and who comes.
func TestGuess(t *testing.T) {
	g := game(t, lively)
	p := newPeer(t, g, 2, 3, 4)
	all := append(says(8), in(-2, 40), in(1, 3), in(-2, 41))
	l := letter(0, 1, nil, all)
	l.To = 2
	hear(t, p, l)
	var frames [][][]api.Input
	for f := 1; f <= 8; f++ {
		mine := says(int64(f))
		advance(t, p, mine)
		if f == 1 {
			frames = append(frames, of(nil, nil, mine))
		} else {
			frames = append(frames, of(all, nil, mine))
		}
		wantNow(t, "what one of them said again and again", p, fold(t, g, 4, frames...))
	}
	wantBack(t, "nothing became another one", p, 0)
	l = letter(1, 1, says(6))
	l.To = 2
	hear(t, p, l)
	for f := range frames {
		frames[f][1] = says(6)
	}
	worlds := fold(t, g, 4, frames...)
	wantNow(t, "what both said", p, worlds)
	wantSure(t, "what both said", p, worlds, 1)
	wantBack(t, "all became other ones", p, 8)
}

// TestComes: the chapter's words, for each input with a key below 0 an entity comes, in their order, with each kind and everywhere its value; as long as there is room.
func TestComes(t *testing.T) {
	g := game(t, "")
	p := newPeer(t, g, 1, 3, 0)
	l := letter(2, 1, []api.Input{in(-1, 30), in(math.MinInt, math.MaxInt64)})
	l.To = 1
	hear(t, p, l)
	l = letter(0, 1, []api.Input{in(-1, 10), in(0, 11), in(1, 12), in(-2, math.MinInt64)})
	l.To = 1
	hear(t, p, l)
	advance(t, p, []api.Input{in(5, 1), in(-7, -1)})
	w, _ := p.Now()
	values := []int64{10, math.MinInt64, -1, 30, math.MaxInt64}
	var want []api.Row
	for i, v := range values {
		want = append(want, api.Row{E: api.Entity{Index: i, Gen: 1}, Parts: []api.Part{{Kind: 1, Values: []int64{v, v}}, {Kind: 2}, {Kind: 3, Values: []int64{v}}}})
	}
	if got := fmt.Sprint(w.Rows()); got != fmt.Sprint(want) {
		t.Errorf("words: who comes: %s, want %v", got, want)
	}
	alone := newPeer(t, g, 0, 1, 0)
	for f := 1; f <= 30; f++ {
		advance(t, alone, slices.Repeat([]api.Input{in(-1, int64(f))}, 8))
		w, _ := alone.Now()
		if got := len(w.Rows()); got != min(8*f, 200) {
			t.Fatalf("words: %d are there behind frame %d", got, f)
		}
	}
}

// TestKinds: the chapter's words, who comes has each kind of the game, however many there are.
func TestKinds(t *testing.T) {
	var most []api.Kind
	for i := range api.MaxKinds {
		most = append(most, api.Kind{Name: fmt.Sprint("K", i), Fields: []string{"a", "b", "c", "d"}[:i%5]})
	}
	for n := 1; n <= len(most); n++ {
		p := newPeer(t, game(t, "", most[:n]...), 0, 2, 0)
		advance(t, p, []api.Input{in(-3, 8)})
		w, _ := p.Now()
		rows := w.Rows()
		if len(rows) != 1 || len(rows[0].Parts) != n {
			t.Fatalf("words: of %d kinds: %v", n, rows)
		}
		for i, part := range rows[0].Parts {
			if part.Kind != i+1 || !slices.Equal(part.Values, []int64{8, 8, 8, 8}[:i%5]) {
				t.Errorf("words: of %d kinds: %v", n, part)
			}
		}
	}
}

// TestPlayers: the chapter's words, each input is of the peer who told it, whoever is named there; of one key the last one counts.
func TestPlayers(t *testing.T) {
	g := game(t, lively)
	named := func(player int) []api.Input {
		return []api.Input{{Player: player, Key: 1, Value: 50}, {Player: player, Key: -1, Value: 9}, {Player: player, Key: 1, Value: 60}}
	}
	var want string
	for _, player := range []int{0, 1, 2, -1, 99, math.MinInt, math.MaxInt} {
		p := newPeer(t, g, 0, 2, 0)
		advance(t, p, named(player), named(player))
		hear(t, p, letter(1, 1, named(player)))
		wantNow(t, "of whoever is named there", p, fold(t, g, 0, of(named(0), named(1)), of(named(0), named(1))))
		is := told(p)
		if want == "" {
			want = is
		}
		if is != want {
			t.Errorf("words: inputs of the player %d: %s, want %s", player, is, want)
		}
		// The same, of others: nothing becomes another one.
		hear(t, p, letter(1, 2, named(player+1)))
		wantBack(t, "the same, whoever is named there", p, 2)
	}
}

// TestSeed: the chapter's words, each frame has the seed of all, whatever that is, and its own number.
func TestSeed(t *testing.T) {
	g := game(t, lively)
	seen := map[string]bool{}
	for _, seed := range []int64{0, 1, -1, 77, math.MinInt64, math.MaxInt64} {
		p := newPeer(t, g, 0, 1, seed)
		var frames [][][]api.Input
		for f := range 20 {
			list := append(says(int64(f)), in(-1, 100))
			advance(t, p, list)
			frames = append(frames, of(list))
		}
		worlds := fold(t, g, seed, frames...)
		wantNow(t, "of this seed", p, worlds)
		seen[worlds[20]] = true
	}
	if len(seen) != 6 {
		t.Errorf("the test's own game hangs too little on the seed: %d worlds", len(seen))
	}
}

// TestBack: G6, what is made anew are the frames from the first one whose inputs became other ones.
func TestBack(t *testing.T) {
	g := game(t, lively)
	a, b := in(1, 4), in(1, 5)
	for _, c := range []struct {
		what   string
		known  [][]api.Input
		heard  [][]api.Input
		frames int
		want   int
	}{
		{"nothing where nothing was guessed", nil, of(nil, nil, nil), 5, 0},
		{"an empty list where nothing was guessed", nil, of([]api.Input{}), 5, 0},
		{"no frame", nil, nil, 5, 0},
		{"something in the first frame", nil, of([]api.Input{a}), 5, 5},
		{"something in the third frame", nil, of(nil, nil, []api.Input{a}), 5, 3},
		{"something in the last frame", nil, of(nil, nil, nil, nil, []api.Input{a}), 5, 1},
		{"something in the last frame, and then nothing", nil, of(nil, nil, nil, nil, []api.Input{a}, nil), 5, 1},
		{"something behind the last frame", nil, of(nil, nil, nil, nil, nil, []api.Input{a}), 5, 0},
		{"something in the second frame, and then nothing", nil, of(nil, []api.Input{a}, nil, nil, nil), 5, 4},
		{"as guessed", of([]api.Input{a}), of([]api.Input{a}, []api.Input{a}), 5, 0},
		{"nothing, where something was guessed", of([]api.Input{a}), of(nil), 5, 4},
		{"as guessed, and then nothing", of([]api.Input{a}), of([]api.Input{a}, nil), 5, 3},
		{"another value", of([]api.Input{a}), of([]api.Input{b}), 5, 4},
		{"another key", of([]api.Input{a}), of([]api.Input{in(2, 4)}), 5, 4},
		{"one more", of([]api.Input{a}), of([]api.Input{a, b}), 5, 4},
		{"one less", of([]api.Input{a, b}), of([]api.Input{a}), 5, 4},
		{"twice the same", of([]api.Input{a}), of([]api.Input{a, a}), 5, 4},
		{"in another order", of([]api.Input{a, b}), of([]api.Input{b, a}), 5, 4},
		{"something to which nobody listens", of([]api.Input{in(3, 1)}), of([]api.Input{in(3, 2)}), 5, 4},
		{"all of it known", of(nil, nil, nil, nil, nil), of([]api.Input{a}), 5, 0},
		{"without a frame", nil, of([]api.Input{a}, nil, []api.Input{b}), 0, 0},
		{"of eight frames", nil, of([]api.Input{a}), 8, 8},
	} {
		p := newPeer(t, g, 0, 2, 0)
		for f := range c.frames {
			advance(t, p, []api.Input{in(-1, int64(f+20))})
		}
		hear(t, p, letter(1, 1, c.known...))
		was := p.Back()
		hear(t, p, letter(1, len(c.known)+1, c.heard...))
		wantBack(t, c.what, p, was+c.want)
	}
}

// TestBackOfSeveral: G6, a frame is made anew once a Hear, in which its inputs became other ones, whoever's; in all they are counted together.
func TestBackOfSeveral(t *testing.T) {
	g := game(t, lively)
	p := newPeer(t, g, 0, 3, 0)
	advance(t, p, slices.Repeat([][]api.Input{says(1)}, 6)...)
	for _, c := range []struct {
		l    api.Letter
		want int
	}{
		{letter(1, 1, nil, says(2)), 5},
		{letter(2, 1, nil, nil, says(2)), 5 + 4},
		{letter(1, 3, says(2), says(2), nil), 5 + 4 + 2},
		{letter(2, 4, says(2)), 5 + 4 + 2},
		{letter(1, 1, says(2), says(2), says(3), says(2), says(3), says(9)), 5 + 4 + 2 + 1},
		{letter(2, 1, says(2), says(2), says(3), says(2), says(2), says(2), says(2)), 5 + 4 + 2 + 1},
	} {
		hear(t, p, c.l)
		wantBack(t, fmt.Sprint(c.l), p, c.want)
	}
}

// TestLetters: G4, a letter to each other peer, by number: from where that one knows, and what is known of it.
func TestLetters(t *testing.T) {
	g := game(t, lively)
	for peers := 1; peers <= 4; peers++ {
		for id := range peers {
			p := newPeer(t, g, id, peers, 6)
			sum := func() uint32 {
				w, _ := p.Sure()
				return pack.Sum(w.Snapshot())
			}
			seen, toldOf := make([]int, peers), make([]int, peers)
			var own [][]api.Input
			hold := func() {
				t.Helper()
				var want []api.Letter
				_, sure := p.Sure()
				for to := range peers {
					if to != id {
						want = append(want, api.Letter{From: id, To: to, First: toldOf[to] + 1, Inputs: own[toldOf[to]:], Seen: seen[to], Sum: sum(), Checked: sure})
					}
				}
				for range 2 {
					if got := p.Letters(); fmt.Sprint(got) != fmt.Sprint(want) {
						t.Fatalf("G4: peer %d of %d: %v, want %v", id, peers, got, want)
					}
				}
			}
			hold()
			for f := 1; f <= 6; f++ {
				list := []api.Input{{Player: 7, Key: f, Value: 9}, {Player: 8, Key: -1, Value: int64(f)}}[:f%3]
				advance(t, p, list)
				own = append(own, slices.Clone(list))
				for i := range list {
					own[f-1][i].Player = id
				}
				hold()
				for from := range peers {
					if from == id {
						continue
					}
					l := api.Letter{From: from, To: id, First: seen[from] + 1, Seen: max(0, f-from)}
					if (f+from)%2 == 0 {
						l.Inputs = [][]api.Input{says(int64(f))}
						seen[from]++
					}
					hear(t, p, l)
					toldOf[from] = max(toldOf[from], l.Seen)
					hold()
					l.Seen = 0 // an elder one
					hear(t, p, l)
					hold()
				}
			}
		}
	}
}

// TestLettersOfSixteen: G4, a letter tells of sixteen frames at most, the first ones.
func TestLettersOfSixteen(t *testing.T) {
	p := newPeer(t, game(t, lively), 0, 3, 0)
	hold := func(to, first, last int) {
		t.Helper()
		l := p.Letters()[to-1]
		if l.First != first || len(l.Inputs) != last-first+1 || l.To != to {
			t.Fatalf("G4: to %d: %d frames from %d on, want %d to %d", to, len(l.Inputs), l.First, first, last)
		}
		for i, list := range l.Inputs {
			if len(list) != 1 || list[0] != (api.Input{Key: 1, Value: int64(first + i)}) {
				t.Errorf("G4: to %d: the inputs of frame %d: %v", to, first+i, list)
			}
		}
	}
	for f := 1; f <= 40; f++ {
		advance(t, p, says(int64(f)))
		hear(t, p, letter(1, f, nil), letter(2, f, nil))
		hold(1, 1, min(f, 16))
		hold(2, 1, min(f, 16))
	}
	hear(t, p, api.Letter{From: 1, First: 1, Seen: 20})
	hold(1, 21, 36)
	hold(2, 1, 16)
	hear(t, p, api.Letter{From: 2, First: 1, Seen: 24})
	hold(1, 21, 36)
	hold(2, 25, 40)
	hear(t, p, api.Letter{From: 1, First: 1, Seen: 39}, api.Letter{From: 2, First: 1, Seen: 40})
	hold(1, 40, 40)
	hold(2, 41, 40)
	advance(t, p, says(41))
	hold(1, 40, 41)
	hold(2, 41, 41)
}

// TestSeenAhead: G3 and G4, another one may know the own inputs of frames of which one is not sure; they are still what one's own world is made of.
func TestSeenAhead(t *testing.T) {
	g := game(t, lively)
	p := newPeer(t, g, 0, 2, 0)
	mine := [][]api.Input{append(says(1), in(-1, 40)), says(2), says(3), says(4), says(5)}
	advance(t, p, mine...)
	hear(t, p, api.Letter{From: 1, First: 1, Seen: 5})
	if l := p.Letters()[0]; l.First != 6 || len(l.Inputs) != 0 {
		t.Errorf("G4: all is seen: %v", l)
	}
	hear(t, p, letter(1, 1, nil, says(9)))
	worlds := fold(t, g, 0, of(mine[0], nil), of(mine[1], says(9)), of(mine[2], says(9)), of(mine[3], says(9)), of(mine[4], says(9)))
	wantNow(t, "all was seen", p, worlds)
	wantSure(t, "all was seen", p, worlds, 2)
}

// TestApart: G3 and G6, what is told of the world of a frame that is sure is held against it, behind all else that the letter tells.
func TestApart(t *testing.T) {
	g := game(t, lively)
	mine := append(says(1), in(-1, 40))
	grown := func() (*rollback.Peer, []uint32) {
		p := newPeer(t, g, 0, 3, 0)
		advance(t, p, mine, mine, mine, mine, mine, mine)
		hear(t, p, letter(1, 1, nil, nil, nil, nil, nil, nil, nil), letter(2, 1, nil, nil, nil, nil))
		var sums []uint32
		for _, b := range fold(t, g, 0, of(mine), of(mine), of(mine), of(mine), of(mine), of(mine)) {
			sums = append(sums, pack.Sum([]byte(b)))
		}
		return p, sums
	}
	_, sums := grown()
	for _, c := range []struct {
		what string
		l    api.Letter
		want int
	}{
		{"no frame", api.Letter{First: 1, Sum: 7}, 0},
		{"the frame 1", api.Letter{First: 1, Checked: 1, Sum: sums[1]}, 0},
		{"the frame 4", api.Letter{First: 1, Checked: 4, Sum: sums[4]}, 0},
		{"another world of frame 1", api.Letter{First: 1, Checked: 1, Sum: sums[1] + 1}, 1},
		{"another world of frame 3", api.Letter{First: 1, Checked: 3, Sum: sums[3] - 1}, 3},
		{"another world of frame 4, which is the last sure one", api.Letter{First: 1, Checked: 4, Sum: 0}, 4},
		{"the world of another frame", api.Letter{First: 1, Checked: 3, Sum: sums[4]}, 3},
		{"another world of frame 5, which is not sure", api.Letter{First: 1, Checked: 5, Sum: sums[5] + 1}, 0},
		{"another world of frame 7, which is not there", api.Letter{First: 1, Checked: 7, Sum: 1}, 0},
		{"another world of a frame that never is", api.Letter{First: 1, Checked: math.MaxInt, Sum: 1}, 0},
		{"the frame 5, which comes to be sure by this letter", api.Letter{First: 5, Inputs: of(nil), Checked: 5, Sum: sums[5]}, 0},
		{"another world of frame 5, which comes to be sure by this letter", api.Letter{First: 5, Inputs: of(nil), Checked: 5, Sum: sums[5] + 1}, 5},
		{"the world of frame 5 as it was guessed", api.Letter{First: 5, Inputs: of(says(2)), Checked: 5, Sum: sums[5]}, 5},
		{"another world of frame 6, which does not come to be sure by this letter", api.Letter{First: 5, Inputs: of(nil), Checked: 6, Sum: sums[6] + 1}, 0},
		{"another world of frame 6, which comes to be sure by this letter with frame 5", api.Letter{First: 4, Inputs: of(nil, nil, nil), Checked: 6, Sum: sums[6] + 1}, 6},
		{"another world of frame 5, when frame 6 comes to be sure, too", api.Letter{First: 4, Inputs: of(nil, nil, nil), Checked: 5, Sum: sums[5] + 1}, 5},
	} {
		p, _ := grown()
		c.l.From = 2
		hear(t, p, c.l)
		wantApart(t, c.what, p, c.want)
	}
	for bit := range 32 {
		p, _ := grown()
		hear(t, p, api.Letter{From: 1, First: 1, Checked: 2, Sum: sums[2] ^ 1<<bit})
		wantApart(t, fmt.Sprintf("the bit %d of the sum is turned", bit), p, 2)
	}
}

// TestApartOnce: G3, what was seen first stays, whatever is heard then; a letter that is refused tells nothing.
func TestApartOnce(t *testing.T) {
	g := game(t, lively)
	p := newPeer(t, g, 0, 3, 0)
	advance(t, p, says(1), says(2), says(3))
	hear(t, p, letter(1, 1, nil, nil, nil), letter(2, 1, nil, nil, nil))
	for _, l := range []api.Letter{
		{From: 1, First: 9, Checked: 1, Sum: 1}, {From: 1, First: 0, Checked: 1, Sum: 1}, {From: 1, First: 1, Seen: 4, Checked: 1, Sum: 1},
		{From: 0, First: 1, Checked: 1, Sum: 1}, {From: 1, To: 1, First: 1, Checked: 1, Sum: 1}, {From: 3, First: 1, Checked: 1, Sum: 1},
	} {
		if p.Hear(l) == api.OK {
			t.Errorf("G3: Hear(%v) goes", l)
		}
	}
	wantApart(t, "letters that were refused", p, 0)
	hear(t, p, api.Letter{From: 2, First: 1, Checked: 2, Sum: 1})
	wantApart(t, "seen at 2", p, 2)
	w, _ := p.Sure()
	for _, l := range []api.Letter{{From: 2, First: 1, Checked: 1, Sum: 1}, {From: 1, First: 1, Checked: 3, Sum: 1}, {From: 2, First: 1, Checked: 3, Sum: pack.Sum(w.Snapshot())}} {
		hear(t, p, l)
		wantApart(t, "seen at 2 before", p, 2)
	}
	advance(t, p, nil)
	wantApart(t, "a frame more", p, 2)
}

// TestNowAndSure: G5, one's own world is the one of the last frame, the sure one that of the last of which nothing is guessed, by whatever it came to be so.
func TestNowAndSure(t *testing.T) {
	g := game(t, lively)
	p := newPeer(t, g, 0, 2, 0)
	theirs := [][]api.Input{says(31), append(says(32), in(-1, 50)), says(33)}
	hear(t, p, letter(1, 1, theirs...))
	mine := [][]api.Input{append(says(1), in(-1, 40)), says(2), says(3), says(4)}
	frames := [][][]api.Input{of(mine[0], theirs[0]), of(mine[1], theirs[1]), of(mine[2], theirs[2]), of(mine[3], theirs[2])}
	for f, list := range mine {
		worlds := fold(t, g, 0, frames[:f]...)
		wantNow(t, "ahead of an Advance", p, worlds)
		wantSure(t, "ahead of an Advance", p, worlds, f)
		advance(t, p, list)
	}
	worlds := fold(t, g, 0, frames...)
	wantNow(t, "one frame more than the other one", p, worlds)
	wantSure(t, "one frame more than the other one", p, worlds, 3)
	wantBack(t, "nothing was guessed wrong", p, 0)
	hear(t, p, letter(1, 4, says(34)))
	worlds = fold(t, g, 0, append(frames[:3:3], of(mine[3], says(34)))...)
	wantNow(t, "as far as the other one", p, worlds)
	wantSure(t, "as far as the other one", p, worlds, 4)
	wantBack(t, "one was guessed wrong", p, 1)
}

// TestAsks: what asks changes nothing: G4, G5 and G6.
func TestAsks(t *testing.T) {
	g := game(t, lively)
	asked, not := newPeers(t, g, 3, 2), newPeers(t, g, 3, 2)
	for f := range 12 {
		for id := range 3 {
			list := append(says(int64(f*3+id)), in(-1, int64(f)))
			for range 3 {
				told(asked[id])
			}
			advance(t, asked[id], list)
			advance(t, not[id], list)
		}
		deliver(t, asked[:2+f%2])
		deliver(t, not[:2+f%2])
		for id := range 3 {
			if is, want := told(asked[id]), told(not[id]); is != want {
				t.Fatalf("G4 to G6: who was asked tells %s, want %s", is, want)
			}
		}
		if f%2 == 0 {
			deliver(t, asked)
			deliver(t, not)
		}
	}
}
