package rollback_test

import (
	"fmt"
	"math"
	"math/rand"
	"slices"
	"testing"

	"hindcast/api"
	"hindcast/frame"
	"hindcast/pack"
	"hindcast/rollback"
	"hindcast/world"
)

// model is a peer as the chapter's words say it: it has all inputs that are known, and makes the worlds of them anew wherever they are others.
type model struct {
	g      *frame.Game
	id     int
	seed   int64
	inputs [][][]api.Input // of each peer, of the frames from 1 up to that which is known
	told   []int
	back   int
	apart  int
	made   []*world.World // of frame 0, and so on, by the inputs in by
	by     [][]api.Input
}

func newModel(g *frame.Game, id, peers int, seed int64) *model {
	return &model{g: g, id: id, seed: seed, inputs: make([][][]api.Input, peers), told: make([]int, peers), made: []*world.World{g.Start()}}
}

func (m *model) known(q int) int { return len(m.inputs[q]) }

func (m *model) last() int { return m.known(m.id) }

func (m *model) sure() int {
	least := m.last()
	for q := range m.inputs {
		least = min(least, m.known(q))
	}
	return least
}

// lists are the inputs of a frame, as this peer sees them: a list a peer.
func (m *model) lists(f int) [][]api.Input {
	var lists [][]api.Input
	for q, all := range m.inputs {
		switch {
		case f <= m.known(q):
			lists = append(lists, all[f-1])
		case m.known(q) > 0:
			lists = append(lists, all[m.known(q)-1])
		default:
			lists = append(lists, nil)
		}
	}
	return lists
}

// world gives that of a frame. What was made already of the same inputs is not made once more.
func (m *model) world(f int) *world.World {
	for k := 1; k <= f; k++ {
		tick := tickOf(m.seed, m.lists(k)...)
		if k < len(m.made) && slices.Equal(m.by[k-1], tick.Inputs) {
			continue
		}
		w, _, _ := m.g.Step(m.made[k-1], k, tick, nil)
		m.made, m.by = append(m.made[:k], w), append(m.by[:k-1], tick.Inputs)
	}
	return m.made[f]
}

func (m *model) sum(f int) uint32 { return pack.Sum(m.world(f).Snapshot()) }

func (m *model) advance(list []api.Input) api.Errno {
	if len(list) > 8 {
		return api.ErrArg
	}
	if m.last() == 5000 {
		return api.ErrFull
	}
	if m.last() >= m.sure()+8 {
		return api.ErrWindow
	}
	m.inputs[m.id] = append(m.inputs[m.id], slices.Clone(list))
	return api.OK
}

func (m *model) mayHear(l api.Letter) api.Errno {
	if l.To != m.id || l.From < 0 || l.From >= len(m.inputs) || l.From == m.id {
		return api.ErrPeer
	}
	if l.First < 1 || l.Seen < 0 || l.Seen > m.last() || l.Checked < 0 {
		return api.ErrArg
	}
	for _, list := range l.Inputs {
		if len(list) > 8 {
			return api.ErrArg
		}
	}
	if l.First > m.known(l.From)+1 || l.First+len(l.Inputs)-1 > m.last()+8 {
		return api.ErrWindow
	}
	return api.OK
}

// seen are the inputs of all frames, as they are seen now.
func (m *model) seen() []string {
	var all []string
	for f := 1; f <= m.last(); f++ {
		all = append(all, fmt.Sprint(tickOf(0, m.lists(f)...).Inputs))
	}
	return all
}

func (m *model) hear(l api.Letter) api.Errno {
	if bad := m.mayHear(l); bad != api.OK {
		return bad
	}
	was := m.seen()
	for i, list := range l.Inputs {
		if l.First+i == m.known(l.From)+1 {
			m.inputs[l.From] = append(m.inputs[l.From], slices.Clone(list))
		}
	}
	for f, is := range m.seen() {
		if is != was[f] {
			m.back += m.last() - f
			break
		}
	}
	m.told[l.From] = max(m.told[l.From], l.Seen)
	if l.Checked >= 1 && l.Checked <= m.sure() && l.Sum != m.sum(l.Checked) && m.apart == 0 {
		m.apart = l.Checked
	}
	return api.OK
}

func (m *model) letters() []api.Letter {
	var all []api.Letter
	for q := range m.inputs {
		if q == m.id {
			continue
		}
		l := api.Letter{From: m.id, To: q, First: m.told[q] + 1, Seen: m.known(q), Checked: m.sure(), Sum: m.sum(m.sure())}
		for f := l.First; f <= m.last() && f < l.First+16; f++ {
			var list []api.Input
			for _, x := range m.inputs[m.id][f-1] {
				list = append(list, api.Input{Player: m.id, Key: x.Key, Value: x.Value})
			}
			l.Inputs = append(l.Inputs, list)
		}
		all = append(all, l)
	}
	return all
}

// told writes all that a peer tells, as the function of that name does.
func (m *model) tells() string {
	n, sure := m.last(), m.sure()
	return fmt.Sprintf("now %d %x; sure %d %x; back %d; apart %v %d; %v", n, m.world(n).Snapshot(), sure, m.world(sure).Snapshot(), m.back, m.apart > 0, m.apart, m.letters())
}

// caller makes calls that are left to chance, or to bytes, of a peer and its model.
type caller struct {
	testing.TB
	below func(n int) int // 0 up to n, without n
	p     *rollback.Peer
	m     *model
	seen  map[string]int
}

func (c *caller) chance(of int) bool { return c.below(of) == 0 }

// someInputs are few, and of few kinds, so that they are guessed at times; seldom they are too many.
func (c *caller) someInputs() []api.Input {
	if c.chance(30) {
		return make([]api.Input, 8+c.below(2))
	}
	if c.chance(3) {
		return nil
	}
	var list []api.Input
	for range c.below(3) {
		list = append(list, api.Input{Player: c.below(5) - 1, Key: c.below(3) - 1, Value: int64(c.below(3)) - 1 + int64(c.below(2))*17})
	}
	return list
}

// odd is a number that is mostly wrong wherever it stands.
func (c *caller) odd() int {
	return []int{-1, 0, 1 << 20, math.MinInt, math.MaxInt, math.MaxInt - 1, 5, c.m.last() + 1, c.m.last() + 9}[c.below(9)]
}

// someLetter is mostly right, and tells something new.
func (c *caller) someLetter() api.Letter {
	peers, id, last := len(c.m.inputs), c.m.id, c.m.last()
	l := api.Letter{From: (id + 1 + c.below(max(peers-1, 1))) % peers, To: id, First: 1, Seen: c.below(last + 1)}
	known := c.m.known(l.From)
	l.First = max(1, known+1-[]int{0, 0, 0, 0, 1, 2, known}[c.below(7)])
	for range c.below(max(1, min(6, last+9-known))) + known + 1 - l.First {
		l.Inputs = append(l.Inputs, c.someInputs())
	}
	if c.chance(2) {
		l.Checked = c.below(c.m.sure() + 3)
		if l.Checked <= c.m.sure() {
			l.Sum = c.m.sum(l.Checked)
		}
	}
	switch c.below(40) {
	case 0:
		l.From = c.odd()
	case 1:
		l.To = c.odd()
	case 2:
		l.First = c.odd()
	case 3:
		l.Seen = c.odd()
	case 4:
		l.Checked = c.odd()
	case 5:
		l.Inputs = append(l.Inputs, make([][]api.Input, c.below(20))...)
	case 6:
		l.Sum ^= 1 << c.below(32)
	case 7:
		l.First += c.below(4)
	}
	return l
}

// call makes one, and holds all that is told then.
func (c *caller) call() {
	if c.chance(2) {
		list := c.someInputs()
		want := c.m.advance(list)
		if bad := c.p.Advance(list); bad != want {
			c.Fatalf("G2: Advance(%v): %v, want %v", list, bad, want)
		}
		c.seen[fmt.Sprint("Advance ", int(want))]++
	} else {
		l := c.someLetter()
		want := c.m.hear(l)
		if bad := c.p.Hear(l); bad != want {
			c.Fatalf("G3: Hear(%v): %v, want %v", l, bad, want)
		}
		c.seen[fmt.Sprint("Hear ", int(want))]++
	}
	if got, want := told(c.p), c.m.tells(); got != want {
		c.Fatalf("G3 to G6: a peer tells %s, want %s", got, want)
	}
}

// TestModel: G2 to G6, calls in all orders against what the chapter's words say.
func TestModel(t *testing.T) {
	g := game(t, lively)
	seen := map[string]int{}
	for seed := range 40 {
		r := rand.New(rand.NewSource(int64(seed)))
		peers := []int{2, 3, 4, 2, 3, 4, 2, 3, 4, 1}[seed%10]
		id := r.Intn(peers)
		c := &caller{TB: t, below: r.Intn, p: newPeer(t, g, id, peers, int64(seed)), m: newModel(g, id, peers, int64(seed)), seen: seen}
		for range 100 {
			c.call()
		}
		if c.m.back > 0 {
			seen["Back"]++
		}
		if c.m.apart > 0 {
			seen["Apart"]++
		}
	}
	for _, what := range []string{"Advance 0", "Advance 1", "Advance 241", "Hear 0", "Hear 1", "Hear 240", "Hear 241", "Back", "Apart"} {
		if seen[what] < 10 {
			t.Errorf("the test's own calls: %s was seen %d times", what, seen[what])
		}
	}
}

// FuzzCalls: P1 of DOC.md, and G1 to G6, any calls against the model.
func FuzzCalls(f *testing.F) {
	f.Add(0, 2, int64(3), []byte{1, 0, 1, 2, 0, 0, 9, 1, 0, 1, 0, 1, 9, 1, 0, 1, 0, 8, 1, 1, 1, 1, 9, 4, 5, 6})
	f.Add(0, 0, int64(0), []byte{})
	f.Add(3, 4, int64(-1), []byte{0, 5, 1, 2, 1, 1, 1, 1, 0, 5, 1, 1, 2, 2, 2, 1, 0, 0, 0, 3, 5, 5, 1, 2})
	f.Add(0, 1, int64(9), []byte{0, 1, 1, 2, 2, 2, 2, 1, 0, 0, 1, 2, 3})
	g := game(f, lively)
	f.Fuzz(func(t *testing.T, id, peers int, seed int64, bytes []byte) {
		p, bad := rollback.New(g, id, peers, seed)
		if right := peers >= 1 && peers <= 4 && id >= 0 && id < peers; right != (bad == api.OK) || right != (p != nil) {
			t.Fatalf("G1: New(%d, %d): %v", id, peers, bad)
		}
		if bad != api.OK {
			return
		}
		c := &caller{TB: t, p: p, m: newModel(g, id, peers, seed), seen: map[string]int{}}
		c.below = func(n int) int {
			if len(bytes) == 0 {
				return 0
			}
			first := int(bytes[0])
			bytes = bytes[1:]
			return first % n
		}
		for range 60 {
			if len(bytes) > 0 {
				c.call()
			}
		}
	})
}
