// Package weave: transforms, and a filter that never waits: see DOC.md.
package weave

import (
	"weave/api"
	"weave/ring"
)

// Filter is a filter, and what is in it.
type Filter struct {
	config   api.Config
	accepted int
	samples  *ring.Ring[int]      // of the block that is not whole yet
	answers  *ring.Ring[int]      // ready and not pulled
	blocks   *ring.Ring[[]uint64] // the last whole ones, as many as the longest taps can meet
	taps     [][]uint64
	next     [][]uint64 // those of the swap that is pending
	pending  int
}

const noSwap = -1

// New makes a filter (P8).
func New(c api.Config, taps []int) (*Filter, api.Errno) {
	if !isConfig(c) {
		return nil, api.ErrConfig
	}
	if !areTaps(taps) {
		return nil, api.ErrTaps
	}
	return &Filter{
		config:  c,
		samples: ring.New[int](c.Block),
		answers: ring.New[int](c.Room),
		blocks:  ring.New[[]uint64](windowCount(api.MaxTaps, c.Block)),
		taps:    newShelf().windows(taps, c.Block),
		pending: noSwap,
	}, api.OK
}

// Push hands samples in (P9).
func (f *Filter) Push(l []int) (int, api.Errno) {
	if !areSamples(l) {
		return 0, api.ErrSample
	}
	n := min(len(l), f.room())
	f.accept(l[:n])
	return n, api.OK
}

// Pull takes samples out (P9).
func (f *Filter) Pull(n int) []int {
	return f.answers.Take(n)
}

// Flush fills a block up (P10).
func (f *Filter) Flush() (int, api.Errno) {
	if f.samples.Len() == 0 {
		return 0, api.OK
	}
	missing := f.config.Block - f.samples.Len()
	if missing > f.room() {
		return 0, api.ErrRoom
	}
	f.accept(make([]int, missing))
	return missing, api.OK
}

// Swap changes the taps (P11).
func (f *Filter) Swap(taps []int) (int, api.Errno) {
	if f.pending != noSwap {
		return 0, api.ErrPending
	}
	if !areTaps(taps) {
		return 0, api.ErrTaps
	}
	block := f.config.Block
	f.next = newShelf().windows(taps, block)
	f.pending = block * (f.accepted/block + f.config.Wait)
	return f.pending, api.OK
}

// State tells how the filter is (P12).
func (f *Filter) State() api.State {
	return api.State{
		Accepted: f.accepted,
		Pulled:   f.accepted - f.waiting(),
		Ready:    f.answers.Len(),
		Pending:  f.pending,
	}
}

// waiting tells how many samples were accepted and not pulled: an answer that is ready stands
// for its sample.
func (f *Filter) waiting() int {
	return f.samples.Len() + f.answers.Len()
}

func (f *Filter) room() int {
	return f.config.Room - f.waiting()
}
