package rollback

import (
	"slices"

	"hindcast/api"
)

// player is what is known of a peer.
type player struct {
	gone   int           // its inputs of the frames up to this one are kept no more
	inputs [][]api.Input // those of the frames behind, as far as they are known
	told   int           // up to which frame it has said that it knows the own inputs
}

// known tells up to which frame its inputs are known.
func (p *player) known() int { return p.gone + len(p.inputs) }

// add makes the inputs of one frame more known, as those of this peer, whoever is named there.
func (p *player) add(inputs []api.Input, number int) {
	own := make([]api.Input, len(inputs))
	for i, x := range inputs {
		own[i] = api.Input{Player: number, Key: x.Key, Value: x.Value}
	}
	p.inputs = append(p.inputs, own)
}

// at gives its inputs of a frame that are kept, or of one behind these the guess.
func (p *player) at(f int) []api.Input {
	if p.known() == 0 {
		return nil
	}
	return p.inputs[min(f, p.known())-p.gone-1]
}

// between gives its inputs of the frames from one up to another one.
func (p *player) between(first, last int) [][]api.Input {
	var lists [][]api.Input
	for f := first; f <= last; f++ {
		lists = append(lists, slices.Clone(p.at(f)))
	}
	return lists
}

// letGo keeps its inputs up to a frame no more, but for the last ones, by which the next ones are guessed.
func (p *player) letGo(f int) {
	if old := min(f, p.known()-1) - p.gone; old > 0 {
		p.inputs = slices.Clone(p.inputs[old:]) // so that the others' memory is let go
		p.gone += old
	}
}
