package weave

import (
	"math/bits"
	"slices"

	"weave/api"
	"weave/field"
)

const maxSize = 1 << api.MaxLog

// Transform tells a list's transform, or the inverse one (P3).
func Transform(l []uint64, inverse bool) ([]uint64, api.Errno) {
	if !isSize(len(l)) {
		return nil, api.ErrSize
	}
	if !allElements(l) {
		return nil, api.ErrValue
	}
	return newShelf().transform(l, inverse), api.OK
}

func isSize(n int) bool {
	return n >= 1 && n <= maxSize && n&(n-1) == 0
}

// allElements leans on P2: package field takes what is no element less the prime, so that
// just the elements stay as they are when nothing is added.
func allElements(l []uint64) bool {
	for _, v := range l {
		if field.Add(v, 0) != v {
			return false
		}
	}
	return true
}

// transform is Transform of a list that was looked at already.
func (s *shelf) transform(l []uint64, inverse bool) []uint64 {
	table := s.borrow(len(l))
	defer s.giveBack(table)
	out := scatter(l)
	for size := 2; size <= len(out); size *= 2 {
		merge(out, size, table)
	}
	if !inverse {
		return out
	}
	turnBack(out)
	return out
}

// scatter copies a list so that merging neighbours, then pairs of neighbours and so on brings
// all in order: each thing goes to its place's mirror image, in bits.
func scatter(l []uint64) []uint64 {
	out := make([]uint64, len(l))
	unused := 64 - bits.TrailingZeros(uint(len(l)))
	for i, v := range l {
		out[bits.Reverse64(uint64(i))>>unused] = v
	}
	return out
}

// merge makes transforms of a size of those of half the size, of things at even places and of
// those at odd ones. The table is that of the whole list: each step-th power is one of the size's.
func merge(out []uint64, size int, table []uint64) {
	half, step := size/2, len(out)/size
	for start := 0; start < len(out); start += size {
		for k := start; k < start+half; k++ {
			even, odd := out[k], field.Mul(out[k+half], table[(k-start)*step])
			out[k] = field.Add(even, odd)
			out[k+half] = field.Sub(even, odd)
		}
	}
}

// turnBack makes the inverse transform of the transform: it is the same sums with the root's
// powers the other way round, which is the answers behind the first in reverse, and each too
// great by as many times as there are.
func turnBack(out []uint64) {
	slices.Reverse(out[1:])
	share := field.Inv(field.Embed(len(out)))
	for i, v := range out {
		out[i] = field.Mul(v, share)
	}
}
