package weave

import (
	"slices"

	"weave/field"
)

// accept takes samples for which there is room, and works at each block as it gets whole.
func (f *Filter) accept(l []int) {
	s := newShelf()
	for len(l) > 0 {
		n := f.samples.Put(l)
		l = l[n:]
		f.accepted += n
		if f.samples.Len() == f.config.Block {
			f.work(s)
			f.changeTaps()
		}
	}
}

// changeTaps comes behind each block, so that the first answer with the new taps is that of
// sample s.
func (f *Filter) changeTaps() {
	if f.accepted == f.pending {
		f.taps, f.next, f.pending = f.next, nil, noSwap
	}
}

// work makes the answers of the block that is whole. They are at most 2^31 times 2^31 in size:
// below half the prime, so that lifting gives them back exactly.
func (f *Filter) work(s *shelf) {
	block := f.config.Block
	samples := embedAll(f.samples.Take(block), 2*block)
	f.keep(s.transform(samples, false))
	sums := s.transform(f.meet(), true)
	f.answers.Put(liftAll(sums[block:]))
}

// keep puts a block behind those that wait. The oldest goes if there is no more room: not even
// the longest taps reach it any more.
func (f *Filter) keep(block []uint64) {
	one := [][]uint64{block}
	if f.blocks.Put(one) == 0 {
		f.blocks.Take(1)
		f.blocks.Put(one)
	}
}

// meet tells the sum of the last blocks' products with their windows. Ahead of the first block
// all samples are 0, so windows without a block add nothing.
func (f *Filter) meet() []uint64 {
	blocks := f.blocks.Take(f.blocks.Len())
	defer f.blocks.Put(blocks)
	sum := make([]uint64, 2*f.config.Block)
	for j := range min(len(f.taps), len(blocks)) {
		addProducts(sum, blocks[len(blocks)-1-j], f.taps[j])
	}
	return sum
}

func addProducts(sum, a, b []uint64) {
	for i := range sum {
		sum[i] = field.Add(sum[i], field.Mul(a[i], b[i]))
	}
}

// windows tells taps as blocks meet them: window j, two blocks long, for the block that lies j
// blocks back. Sample p of that block has its share in answer m by tap j*block + m - p, so the
// window begins with tap (j-1)*block. With as many 0 behind a block's samples, its products with
// the window hold these shares in their second half: what comes round falls on the first.
func (s *shelf) windows(taps []int, block int) [][]uint64 {
	// Ahead of the first tap all are 0.
	padded := slices.Concat(make([]int, block), taps)
	out := make([][]uint64, windowCount(len(taps), block))
	for j := range out {
		window := padded[j*block : min((j+2)*block, len(padded))]
		out[j] = s.transform(embedAll(window, 2*block), false)
	}
	return out
}

// windowCount tells how many blocks so many taps meet, that of the answers too: the last tap,
// seen from the block's first answer, reaches the farthest back.
func windowCount(taps, block int) int {
	return (taps+block-2)/block + 1
}
