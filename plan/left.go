package plan

import "math/bits"

// left is who is left of some in a row: at i, from 1 on, how many of the i&-i places that end with the i-th. So the one that is picked is found in few steps, however many there are.
type left []int

// allLeft has nobody taken yet.
func allLeft(size int) left {
	l := make(left, size+1)
	for i := range l {
		l[i] = i & -i
	}
	return l
}

// take takes the one with pick others of those that are left ahead of it, of which there must be one: how many stood ahead of it at first.
func (l left) take(pick int) int {
	ahead := 0
	for half := 1 << (bits.Len(uint(len(l))) - 1); half > 0; half /= 2 {
		end := ahead + half
		switch {
		case end >= len(l):
		case l[end] <= pick:
			pick -= l[end]
			ahead = end
		default:
			l[end]--
		}
	}
	return ahead
}
