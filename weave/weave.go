// Package weave: transforms, and a filter that never waits: see DOC.md.
package weave

import "weave/api"

// Filter is a filter, and what is in it.
type Filter struct{}

// New makes a filter (P8).
func New(c api.Config, taps []int) (*Filter, api.Errno) { return nil, api.OK }

// Push hands samples in (P9).
func (f *Filter) Push(l []int) (int, api.Errno) { return 0, api.OK }

// Pull takes samples out (P9).
func (f *Filter) Pull(n int) []int { return nil }

// Flush fills a block up (P10).
func (f *Filter) Flush() (int, api.Errno) { return 0, api.OK }

// Swap changes the taps (P11).
func (f *Filter) Swap(taps []int) (int, api.Errno) { return 0, api.OK }

// State tells how the filter is (P12).
func (f *Filter) State() api.State { return api.State{} }
