package rollback_test

import (
	"fmt"
	"slices"
	"sync"
	"testing"

	"hindcast/api"
	"hindcast/rollback"
	"hindcast/world"
)

// junk stands in the room behind lists, and must stay there.
const junk = -77

func junkInput() api.Input { return api.Input{Player: junk, Key: junk, Value: junk} }

// fill writes into a list, and into the room behind it.
func fill[T any](list []T, with T) {
	list = list[:cap(list)]
	for i := range list {
		list[i] = with
	}
}

// roomy gives a list with room behind it, and junk in that.
func roomy[T any](list []T, junk T) []T {
	return append(slices.Clone(list), junk, junk, junk)[:len(list)]
}

// whole gives a list with the room behind it.
func whole[T any](list []T) []T { return list[:cap(list)] }

// text writes all of a letter, and what stands in the room behind its lists.
func text(l api.Letter) string {
	text := fmt.Sprint(l, whole(l.Inputs))
	for _, list := range whole(l.Inputs) {
		text += fmt.Sprint(whole(list))
	}
	return text
}

// spoilWorld does all there is to a world.
func spoilWorld(w *world.World) {
	for i, row := range w.Rows() {
		for _, part := range row.Parts {
			fill(part.Values, junk)
			if i%3 == 0 {
				w.Set(row.E, part)
			} else {
				w.Remove(row.E, part.Kind)
			}
		}
		if i%3 == 2 {
			w.Despawn(row.E)
		}
	}
	for range 3 {
		w.Spawn(nil)
	}
}

// spoilAnswers writes into all that a peer answers.
func spoilAnswers(p *rollback.Peer) {
	now, _ := p.Now()
	spoilWorld(now)
	sure, _ := p.Sure()
	spoilWorld(sure)
	letters := p.Letters()
	for _, l := range letters {
		for _, list := range l.Inputs {
			fill(list, junkInput())
		}
		fill(l.Inputs, []api.Input{junkInput()})
	}
	fill(letters, api.Letter{First: junk})
}

// play plays some frames, by calls that are handed to do; it gives the peers.
func play(t testing.TB, do func(p *rollback.Peer, list []api.Input, heard []api.Letter)) []*rollback.Peer {
	peers := newPeers(t, game(t, lively), 3, 4)
	for f := range 14 {
		for id, p := range peers {
			var letters []api.Letter
			for _, other := range peers {
				for _, l := range other.Letters() {
					if l.To == id && (f+l.From)%3 > 0 {
						letters = append(letters, l)
					}
				}
			}
			do(p, []api.Input{in(-1, int64(f)), in(1, int64(f/3+id)), in(2, 0)}[:f%4], letters)
		}
	}
	return peers
}

// TestKeepsNothing: P3 of DOC.md, inputs and letters stay as they are, with the room behind their lists, and are the caller's, who may write into them.
func TestKeepsNothing(t *testing.T) {
	spoilt := play(t, func(p *rollback.Peer, list []api.Input, heard []api.Letter) {
		list = roomy(list, junkInput())
		was := fmt.Sprint(whole(list))
		advance(t, p, list)
		if is := fmt.Sprint(whole(list)); is != was {
			t.Fatalf("P3: what Advance was given is written into: %s, want %s", is, was)
		}
		fill(list, junkInput())
		for _, l := range heard {
			l.Inputs = roomy(l.Inputs, roomy(says(3), junkInput()))
			for i, list := range l.Inputs {
				l.Inputs[i] = roomy(list, junkInput())
			}
			was := text(l)
			hear(t, p, l)
			if is := text(l); is != was {
				t.Fatalf("P3: what Hear was given is written into: %s, want %s", is, was)
			}
			for _, list := range l.Inputs {
				fill(list, junkInput())
			}
			fill(l.Inputs, nil)
		}
	})
	wantAlike(t, "beside inputs that were spoilt", spoilt)
}

// TestOneListManyTimes: P3 of DOC.md, one list may stand at several places, of several letters.
func TestOneListManyTimes(t *testing.T) {
	g := game(t, lively)
	p := newPeer(t, g, 0, 3, 0)
	one := append(says(6), in(-1, 9))
	advance(t, p, one, one, one)
	lists := [][]api.Input{one, one, one[:1], one}
	hear(t, p, letter(1, 1, lists...), letter(2, 1, lists...))
	fill(one, junkInput())
	all := append(says(6), in(-1, 9))
	worlds := fold(t, g, 0, of(all, all, all), of(all, all, all), of(all, all[:1], all[:1]))
	wantNow(t, "of one list", p, worlds)
	wantSure(t, "of one list", p, worlds, 3)
}

// TestRefusedAreLeft: P3 of DOC.md, what is refused is not written into either.
func TestRefusedAreLeft(t *testing.T) {
	p := newPeer(t, game(t, lively), 0, 2, 0)
	nine := roomy(make([]api.Input, 9), junkInput())
	was := fmt.Sprint(whole(nine))
	if bad := p.Advance(nine); bad != api.ErrArg || fmt.Sprint(whole(nine)) != was {
		t.Errorf("P3: Advance by nine: %v, %v", bad, nine)
	}
	for _, l := range []api.Letter{letter(0, 1, says(1)), letter(1, 1, says(1), nine), letter(1, 2, says(1))} {
		l.Inputs = roomy(l.Inputs, nine)
		was := text(l)
		if bad := p.Hear(l); bad == api.OK || text(l) != was {
			t.Errorf("P3: Hear: %v, %s, want %s", bad, text(l), was)
		}
	}
}

// TestAnswersAreNewMemory: P3 of DOC.md, what is written into worlds and letters, and behind their lists, stands nowhere else.
func TestAnswersAreNewMemory(t *testing.T) {
	spoilt := play(t, func(p *rollback.Peer, list []api.Input, heard []api.Letter) {
		spoilAnswers(p)
		advance(t, p, list)
		spoilAnswers(p)
		for _, l := range heard {
			hear(t, p, l)
			spoilAnswers(p)
		}
	})
	wantAlike(t, "whose answers were spoilt", spoilt)
}

// wantAlike holds peers against those that nothing was done to but what play does.
func wantAlike(t *testing.T, what string, peers []*rollback.Peer) {
	t.Helper()
	for id, clean := range play(t, func(p *rollback.Peer, list []api.Input, heard []api.Letter) {
		advance(t, p, list)
		hear(t, p, heard...)
	}) {
		if is, want := told(peers[id]), told(clean); is != want {
			t.Errorf("P3: a peer %s tells %s, want %s", what, is, want)
		}
		if clean.Back() == 0 {
			t.Errorf("the test's own play: peer %d makes nothing anew", id)
		}
	}
}

// TestLettersShareNothing: P3 of DOC.md, no two lists of the letters share memory, nor the room behind them.
func TestLettersShareNothing(t *testing.T) {
	p := newPeer(t, game(t, lively), 1, 4, 0)
	one := slices.Repeat(says(5), 8)
	advance(t, p, one, one[:3], nil, one[:1])
	letters, again := p.Letters(), p.Letters()
	want := fmt.Sprint(again)
	for i, l := range letters {
		for k, list := range l.Inputs {
			fill(list, junkInput())
			for j := range letters {
				for m, other := range letters[j].Inputs {
					if (j > i || j == i && m > k) && fmt.Sprint(other) != fmt.Sprint(again[j].Inputs[m]) {
						t.Fatalf("P3: who writes into the list %d of letter %d writes into the list %d of letter %d", k, i, m, j)
					}
				}
			}
		}
		fill(l.Inputs, nil)
	}
	if is := fmt.Sprint(again); is != want {
		t.Errorf("P3: who writes into letters writes into others: %s, want %s", is, want)
	}
}

// TestPeersOfOneGame: P4 of DOC.md, peers of one game have nothing to do with one another but by letters.
func TestPeersOfOneGame(t *testing.T) {
	g := game(t, lively)
	one, other := newPeer(t, g, 0, 2, 3), newPeer(t, g, 0, 2, 3)
	was := told(other)
	advance(t, one, append(says(3), in(-1, 4)), says(4))
	hear(t, one, letter(1, 1, says(8)), api.Letter{From: 1, First: 1, Checked: 1, Sum: 1})
	if is := told(other); is != was {
		t.Errorf("P4: what is done with one changes another one: %s, want %s", is, was)
	}
	advance(t, other, append(says(3), in(-1, 4)), says(4))
	hear(t, other, letter(1, 1, says(8)), api.Letter{From: 1, First: 1, Checked: 1, Sum: 1})
	if is, want := told(other), told(one); is != want {
		t.Errorf("P4: the same calls are answered otherwise: %s, want %s", is, want)
	}
}

// TestSideBySide: P4 of DOC.md, peers of one game may be used at a time, each by one.
func TestSideBySide(t *testing.T) {
	g := game(t, lively)
	texts := make([]string, 8)
	var group sync.WaitGroup
	for worker := range texts {
		p := newPeer(t, g, 0, 2, 3)
		group.Go(func() {
			for f := 1; f <= 30; f++ {
				p.Advance(append(says(int64(f)), in(-1, int64(f))))
				p.Hear(letter(1, f-f%2, says(int64(f)), says(int64(f/2))))
				texts[worker] += told(p)
			}
		})
	}
	group.Wait()
	for _, text := range texts {
		if text != texts[0] {
			t.Errorf("P4: beside others the same calls are answered otherwise")
		}
	}
}

// TestErrnos: P5 of DOC.md, what does not go answers a number, which is an error.
func TestErrnos(t *testing.T) {
	p := newPeer(t, game(t, lively), 0, 2, 3)
	_, none := rollback.New(nil, 0, 2, 3)
	for want, err := range map[string]error{"hindcast: error 1": none, "hindcast: error 240": p.Hear(api.Letter{}), "hindcast: error 241": p.Hear(letter(1, 2))} {
		if err.Error() != want {
			t.Errorf("P5: %v, want %s", err, want)
		}
	}
}
