// Package pack: numbers in few bytes: see shared/doc/01-pack.md.
package pack

import "math/bits"

const (
	groupBits = 7    // of a number, in one byte
	more      = 0x80 // the bit of a byte behind which the number goes on
	mostBytes = 10   // of a number of 64 bits
	lastGroup = 1    // the most that the tenth byte may hold: there is one bit left for it

	polynomial = 0x82F63B78 // of Sum
)

// Put adds a number that is not below 0, in as few bytes as may be (A1).
func Put(b []byte, n uint64) []byte {
	return appendNumber(withRoom(b, numberSize(n)), n)
}

// Get reads one, and tells how many bytes it has; 0: there is none (A1).
func Get(b []byte) (uint64, int) {
	n := uint64(0)
	for i := range min(len(b), mostBytes) {
		n |= uint64(b[i]&^more) << (groupBits * i)
		if b[i]&more != 0 {
			continue
		}
		tooLong := i > 0 && b[i] == 0
		tooGreat := i == mostBytes-1 && b[i] > lastGroup
		if tooLong || tooGreat {
			return 0, 0
		}
		return n, i + 1
	}
	return 0, 0
}

// PutInt adds a number with a sign (A2).
func PutInt(b []byte, n int64) []byte { return Put(b, fold(n)) }

// GetInt reads one (A2).
func GetInt(b []byte) (int64, int) {
	n, size := Get(b)
	return unfold(n), size
}

// PutText adds a text; GetText reads one (A3).
func PutText(b []byte, s string) []byte {
	n := uint64(len(s))
	out := appendNumber(withRoom(b, numberSize(n)+len(s)), n)
	return append(out, s...)
}

// GetText reads a text, and tells how many bytes it has; 0: there is none (A3).
func GetText(b []byte) (string, int) {
	n, head := Get(b)
	// Compared as uint64: a length that no int holds must not wrap.
	if head == 0 || n > uint64(len(b)-head) {
		return "", 0
	}
	end := head + int(n)
	return string(b[head:end]), end
}

// Sum is a sum that tells what was spoilt (A5).
func Sum(b []byte) uint32 {
	sum := ^uint32(0)
	for i := range len(b) {
		// All eight bits at once: each meets the lowest bit when its turn to be shifted out comes.
		sum ^= uint32(b[i])
		for range 8 {
			sum = sum>>1 ^ polynomial*(sum&1)
		}
	}
	return ^sum
}

// withRoom copies b into new memory with room for size more bytes, so that what is appended is never written behind the caller's b.
func withRoom(b []byte, size int) []byte {
	out := make([]byte, len(b), len(b)+size)
	copy(out, b)
	return out
}

// appendNumber writes a number behind b, in b's own memory.
func appendNumber(b []byte, n uint64) []byte {
	for range numberSize(n) - 1 {
		b = append(b, byte(n)|more)
		n >>= groupBits
	}
	return append(b, byte(n))
}

// numberSize tells how many bytes a number has. (0 has one, as 1 has.)
func numberSize(n uint64) int {
	return (bits.Len64(n|1) + groupBits - 1) / groupBits
}

// fold makes a number without a sign: those near 0 stay small.
func fold(n int64) uint64 { return uint64(n)<<1 ^ uint64(n>>63) }

// unfold undoes fold.
func unfold(n uint64) int64 { return int64(n>>1) ^ -int64(n&1) }
