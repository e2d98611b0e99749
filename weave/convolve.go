package weave

import (
	"weave/api"
	"weave/field"
)

const (
	minFactor = -32768
	maxFactor = 32767
)

// Convolve tells sums of products (P3).
func Convolve(a, b []int) ([]int, api.Errno) {
	if len(a) == 0 || len(b) == 0 || len(a)+len(b) > maxSize+1 {
		return nil, api.ErrSize
	}
	if !allFactors(a) || !allFactors(b) {
		return nil, api.ErrValue
	}
	return newShelf().convolve(a, b), api.OK
}

func allFactors(l []int) bool {
	for _, n := range l {
		if n < minFactor || n > maxFactor {
			return false
		}
	}
	return true
}

// convolve is Convolve of lists that were looked at already. A sum has at most 2^9 products
// of at most 2^30 each: far below half the prime, so that lifting gives it back exactly.
func (s *shelf) convolve(a, b []int) []int {
	count := len(a) + len(b) - 1
	size := sizeFor(count)
	x := s.transform(embedAll(a, size), false)
	y := s.transform(embedAll(b, size), false)
	for i := range x {
		x[i] = field.Mul(x[i], y[i])
	}
	return liftAll(s.transform(x, true)[:count])
}

// sizeFor tells the least size with room for all sums: with less, the last would come round
// and fall on the first.
func sizeFor(count int) int {
	size := 1
	for size < count {
		size *= 2
	}
	return size
}

func embedAll(l []int, size int) []uint64 {
	out := make([]uint64, size)
	for i, n := range l {
		out[i] = field.Embed(n)
	}
	return out
}

func liftAll(l []uint64) []int {
	out := make([]int, len(l))
	for i, v := range l {
		out[i] = field.Lift(v)
	}
	return out
}
