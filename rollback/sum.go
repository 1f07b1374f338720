package rollback

// sum is that of a world's snapshot, its lowest byte first.
type sum [4]byte

func sumOf(number uint32) sum {
	var s sum
	for i := range s {
		s[i] = byte(number >> (8 * i))
	}
	return s
}

func (s sum) number() uint32 {
	var number uint32
	for i, b := range s {
		number |= uint32(b) << (8 * i)
	}
	return number
}
