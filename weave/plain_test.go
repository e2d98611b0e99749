package weave_test

import (
	"math"
	"math/rand"
	"slices"
	"testing"

	"weave/api"
	"weave/weave"
)

// part is a stretch of a stream, from a sample on, with its taps.
type part struct {
	from int
	taps []int
}

// plainFilter is the filter as the document tells it, word by word: it keeps all samples and
// all taps, and sums each answer when it is pulled.
type plainFilter struct {
	c      api.Config
	x      []int
	parts  []part
	pulled int
}

func (f *plainFilter) push(l []int) (int, api.Errno) {
	for _, n := range l {
		if n < math.MinInt32 || n > math.MaxInt32 {
			return 0, api.ErrSample
		}
	}
	n := min(len(l), f.c.Room-(len(f.x)-f.pulled))
	f.x = append(f.x, l[:n]...)
	return n, api.OK
}

func (f *plainFilter) pull(n int) []int {
	out := []int{}
	for range n {
		if f.state().Ready == 0 {
			break
		}
		out = append(out, f.answer(f.pulled))
		f.pulled++
	}
	return out
}

func (f *plainFilter) flush() (int, api.Errno) {
	n := (f.c.Block - len(f.x)%f.c.Block) % f.c.Block
	if n > f.c.Room-(len(f.x)-f.pulled) {
		return 0, api.ErrRoom
	}
	f.x = append(f.x, make([]int, n)...)
	return n, api.OK
}

// swap is told apart whether the taps are wrong, so that the checks of New are not made again.
func (f *plainFilter) swap(taps []int, wrong bool) (int, api.Errno) {
	if f.state().Pending != -1 {
		return 0, api.ErrPending
	}
	if wrong {
		return 0, api.ErrTaps
	}
	s := f.c.Block * (len(f.x)/f.c.Block + f.c.Wait)
	f.parts = append(f.parts, part{s, slices.Clone(taps)})
	return s, api.OK
}

func (f *plainFilter) state() api.State {
	ready := f.c.Block * (len(f.x) / f.c.Block)
	pending := f.parts[len(f.parts)-1].from
	if pending <= len(f.x) {
		pending = -1
	}
	return api.State{Accepted: len(f.x), Pulled: f.pulled, Ready: ready - f.pulled, Pending: pending}
}

func (f *plainFilter) answer(n int) int {
	k := len(f.parts) - 1
	for f.parts[k].from > n {
		k--
	}
	return plainAnswer(f.parts[k].taps, f.x, n)
}

func plainAnswer(taps, x []int, n int) int {
	sum := 0
	for k := 0; k < len(taps) && k <= n; k++ {
		sum += taps[k] * x[n-k]
	}
	return sum
}

func plainAnswers(taps, x []int) []int {
	out := make([]int, len(x))
	for n := range out {
		out[n] = plainAnswer(taps, x, n)
	}
	return out
}

func mustNew(t *testing.T, c api.Config, taps ...int) *weave.Filter {
	t.Helper()
	f, e := weave.New(c, taps)
	if f == nil || e != api.OK {
		t.Fatalf("P8: New(%+v) with %d taps: error %d", c, len(taps), e)
	}
	return f
}

func mustPush(t *testing.T, f *weave.Filter, l ...int) {
	t.Helper()
	if n, e := f.Push(l); n != len(l) || e != api.OK {
		t.Fatalf("P9: Push of %d samples: %d, error %d", len(l), n, e)
	}
}

func mustSwap(t *testing.T, f *weave.Filter, want int, taps ...int) {
	t.Helper()
	if s, e := f.Swap(taps); s != want || e != api.OK {
		t.Fatalf("P11: Swap = %d, error %d, want %d", s, e, want)
	}
}

func checkState(t *testing.T, f *weave.Filter, accepted, pulled, ready, pending int) {
	t.Helper()
	want := api.State{Accepted: accepted, Pulled: pulled, Ready: ready, Pending: pending}
	if got := f.State(); got != want {
		t.Fatalf("P12: State = %+v, want %+v", got, want)
	}
}

func checkPull(t *testing.T, f *weave.Filter, n int, want []int) {
	t.Helper()
	if got := f.Pull(n); !slices.Equal(got, want) {
		t.Fatalf("P9: Pull(%d) of %d numbers is wrong: %.20v, want %.20v", n, len(got), got, want)
	}
}

func randomSamples(r *rand.Rand, n int) []int {
	out := make([]int, n)
	for i := range out {
		out[i] = int(int32(r.Uint32()))
	}
	return out
}

// randomTaps draws taps whose sizes are as great as can be: with n a power of two they may sum
// up to just MaxNorm.
func randomTaps(r *rand.Rand, n int) []int {
	out, size := make([]int, n), api.MaxNorm/n
	for i := range out {
		out[i] = r.Intn(2*size+1) - size
	}
	return out
}

// stream sends samples through a filter in pieces, as they are drawn, and tells all answers.
func stream(t *testing.T, f *weave.Filter, x []int, piece func() int) []int {
	t.Helper()
	var out []int
	for len(x) > 0 {
		n, e := f.Push(x[:min(len(x), piece())])
		if e != api.OK {
			t.Fatalf("P9: Push: error %d", e)
		}
		x = x[n:]
		out = append(out, f.Pull(piece())...)
	}
	for {
		_, e := f.Flush()
		l := f.Pull(piece())
		out = append(out, l...)
		if e == api.OK && f.State().Ready == 0 {
			return out
		}
	}
}
