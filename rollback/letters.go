package rollback

import (
	"slices"

	"hindcast/api"
)

// mayHear tells what is wrong with a letter (G3).
func (p *Peer) mayHear(l api.Letter) api.Errno {
	if l.To != p.id || l.From == p.id || l.From < 0 || l.From >= len(p.players) {
		return api.ErrPeer
	}
	tooMany := func(inputs []api.Input) bool { return len(inputs) > maxOwn }
	if l.First < 1 || slices.ContainsFunc(l.Inputs, tooMany) || l.Seen < 0 || l.Seen > p.last() || l.Checked < 0 {
		return api.ErrArg
	}
	if l.First > p.players[l.From].known()+1 || l.First+len(l.Inputs)-1 > p.last()+api.MaxAhead {
		return api.ErrWindow
	}
	return api.OK
}

// learn makes the inputs known that a letter tells of, and makes the frames anew for which others were guessed.
func (p *Peer) learn(l api.Letter) {
	from := &p.players[l.From]
	first := from.known() + 1
	guess := from.at(first)
	for i, inputs := range l.Inputs {
		if l.First+i > from.known() {
			from.add(inputs, l.From)
		}
	}
	for f := first; f <= p.last(); f++ {
		if !slices.Equal(from.at(f), guess) {
			p.playAnew(f)
			return
		}
	}
}

// compare holds the world that a letter tells of against the own one, if nothing of it is guessed.
func (p *Peer) compare(l api.Letter) {
	if l.Checked >= 1 && l.Checked <= p.sure && p.apart == 0 && p.sums[l.Checked] != sumOf(l.Sum) {
		p.apart = l.Checked
	}
}

// letter gives the one that is to be sent to a peer (G4).
func (p *Peer) letter(to int) api.Letter {
	first := p.players[to].told + 1
	return api.Letter{
		From:    p.id,
		To:      to,
		First:   first,
		Inputs:  p.players[p.id].between(first, min(first+maxLetter-1, p.last())),
		Seen:    p.players[to].known(),
		Sum:     p.sums[p.sure].number(),
		Checked: p.sure,
	}
}
