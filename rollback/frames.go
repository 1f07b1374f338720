package rollback

import (
	"slices"

	"hindcast/api"
	"hindcast/pack"
	"hindcast/world"
)

// play makes the world of a frame of that ahead of it, which is the last one there. (Step takes all that stands in such a tick.)
func (p *Peer) play(f int) {
	w, _, _ := p.game.Step(p.worlds[len(p.worlds)-1], f, p.tick(f), nil)
	p.worlds = append(p.worlds, w)
}

// playAnew makes the worlds from a frame on anew.
func (p *Peer) playAnew(first int) {
	p.worlds = p.worlds[:first-p.sure]
	for f := first; f <= p.last(); f++ {
		p.play(f)
		p.back++
	}
}

// tick gives all that comes from outside in a frame, as far as it is known, and is guessed.
func (p *Peer) tick(f int) api.Tick {
	t := api.Tick{Seed: p.seed}
	for i := range p.players {
		t.Inputs = append(t.Inputs, p.players[i].at(f)...)
	}
	for _, x := range t.Inputs {
		if x.Key < 0 {
			t.Asks = append(t.Asks, p.comes(x.Value))
		}
	}
	return t
}

// comes gives the ask for somebody who has each kind, and this value everywhere.
func (p *Peer) comes(value int64) api.Command {
	ask := api.Command{Op: api.OpSpawn}
	for i, kind := range p.game.Kinds() {
		ask.Parts = append(ask.Parts, api.Part{Kind: i + 1, Values: slices.Repeat([]int64{value}, len(kind.Fields))})
	}
	return ask
}

// settle goes on to the last frame that is sure now, and lets go what is of no more use.
func (p *Peer) settle() {
	sure, told := p.last(), p.last()
	for i, x := range p.players {
		sure = min(sure, x.known())
		if i != p.id {
			told = min(told, x.told)
		}
	}
	passed := sure - p.sure
	for _, w := range p.worlds[1 : passed+1] {
		p.keepSum(w)
	}
	p.worlds = slices.Delete(p.worlds, 0, passed)
	p.sure = sure
	for i := range p.players {
		if i == p.id {
			p.players[i].letGo(min(sure, told)) // who has not said that it knows them is told of them
		} else {
			p.players[i].letGo(sure)
		}
	}
}

// keepSum keeps the sum of the world of the next frame that is sure, if there is somebody to be told of it.
func (p *Peer) keepSum(w *world.World) {
	if len(p.players) > 1 {
		p.sums = append(p.sums, sumOf(pack.Sum(w.Snapshot())))
	}
}
