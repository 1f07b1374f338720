package syntax

// pair is two nodes that must be the same, if the trees are.
type pair struct{ a, b *Node }

// sames gathers the nodes that must be the same in groups, each with a leader. Who is in one group already is not compared again: so it takes no longer than there are nodes, in however many places they stand.
type sames struct {
	leaders map[*Node]*Node // from one node to another one of its group, and at last to the leader, who has none
	pairs   []pair          // that are not gathered yet
}

func (s *sames) pop() pair {
	last := len(s.pairs) - 1
	p := s.pairs[last]
	s.pairs = s.pairs[:last]
	return p
}

// join makes one group of those of two nodes; it tells whether they may be one, for all that stands in the leaders themselves, whose children then wait as pairs.
func (s *sames) join(p pair) bool {
	a, b := s.leader(p.a), s.leader(p.b)
	if a == b {
		return true
	}
	if a == nil || b == nil || !isAlike(a, b) {
		return false
	}
	s.leaders[a] = b
	for i := range a.L {
		s.pairs = append(s.pairs, pair{a.L[i], b.L[i]})
	}
	return true
}

// leader finds the leader of a node's group, and halves the way there for those who ask again.
func (s *sames) leader(n *Node) *Node {
	for {
		next, ok := s.leaders[n]
		if !ok {
			return n
		}
		if far, ok := s.leaders[next]; ok {
			s.leaders[n] = far
		}
		n = next
	}
}

func isAlike(a, b *Node) bool {
	return a.Op == b.Op && a.Text == b.Text && a.Num == b.Num && len(a.L) == len(b.L)
}
