package weave_test

import (
	"math/rand"
	"slices"
	"testing"

	"weave/api"
)

// TestSwapTellsItsPlace: at each count of samples, a swap holds from a whole block on, and is
// pending until just as many samples have been accepted.
func TestSwapTellsItsPlace(t *testing.T) {
	for _, wait := range []int{1, 2, 3, 64} {
		for a := range 50 {
			f := mustNew(t, api.Config{Block: 16, Room: 4096, Wait: wait}, 3)
			mustPush(t, f, slices.Repeat([]int{1}, a)...)
			s := 16 * (a/16 + wait)
			mustSwap(t, f, s, -4)
			for n := a; n < s; n++ {
				checkState(t, f, n, 0, n/16*16, s)
				mustPush(t, f, 1)
			}
			checkState(t, f, s, 0, s, -1)
			mustPush(t, f, slices.Repeat([]int{1}, 32)...)
			checkPull(t, f, 4096, append(slices.Repeat([]int{3}, s), slices.Repeat([]int{-4}, 32)...))
		}
	}
}

func TestSwapWhileOneIsPending(t *testing.T) {
	f := mustNew(t, api.Config{Block: 16, Room: 64, Wait: 2}, 1)
	mustSwap(t, f, 32, 2)
	for a := range 32 {
		for _, taps := range [][]int{{5}, nil, {1 << 32}, make([]int, 2000)} {
			if s, e := f.Swap(taps); s != 0 || e != api.ErrPending {
				t.Fatalf("P11: a second Swap: %d, error %d", s, e)
			}
		}
		checkState(t, f, a, 0, a/16*16, 32)
		mustPush(t, f, 1)
	}
	mustSwap(t, f, 64, 3)
	checkState(t, f, 32, 0, 32, 64)
	mustPush(t, f, slices.Repeat([]int{1}, 32)...)
	want := append(slices.Repeat([]int{1}, 32), slices.Repeat([]int{2}, 32)...)
	checkPull(t, f, 99, want)
	mustPush(t, f, slices.Repeat([]int{1}, 16)...)
	checkPull(t, f, 99, slices.Repeat([]int{3}, 16))
}

func TestSwapOfTaps(t *testing.T) {
	for name, c := range tapsCases() {
		t.Run(name, func(t *testing.T) {
			f := mustNew(t, small, 6)
			mustPush(t, f, 1, 1)
			s, e := f.Swap(c.taps)
			if c.ok {
				if s != 16 || e != api.OK {
					t.Errorf("P11: Swap: %d, error %d", s, e)
				}
				return
			}
			if s != 0 || e != api.ErrTaps {
				t.Errorf("P11: Swap: %d, error %d, want ErrTaps", s, e)
			}
			checkState(t, f, 2, 0, 0, -1)
			mustPush(t, f, slices.Repeat([]int{1}, 30)...)
			checkPull(t, f, 99, slices.Repeat([]int{6}, 32))
		})
	}
}

func TestFlushReachesASwap(t *testing.T) {
	f := mustNew(t, small, 1)
	mustPush(t, f, 9)
	mustSwap(t, f, 16, 0, 2)
	if n, e := f.Flush(); n != 15 || e != api.OK {
		t.Fatalf("P10: Flush: %d, error %d", n, e)
	}
	checkState(t, f, 16, 0, 16, -1)
	mustPush(t, f, 4, 5)
	f.Flush()
	checkPull(t, f, 99, append(append([]int{9}, make([]int, 16)...), append([]int{8, 10}, make([]int, 13)...)...))
}

// TestPushGoesAcrossASwap: in one call, ahead of which all is pending, and behind which none.
func TestPushGoesAcrossASwap(t *testing.T) {
	r := rand.New(rand.NewSource(1))
	for _, block := range blocks {
		before, behind := randomTaps(r, 300), randomTaps(r, 700)
		x := randomSamples(r, 8*block)
		f := mustNew(t, api.Config{Block: block, Room: 8 * block, Wait: 3}, before...)
		mustSwap(t, f, 3*block, behind...)
		mustPush(t, f, x...)
		checkState(t, f, 8*block, 0, 8*block, -1)
		want := append(plainAnswers(before, x)[:3*block], plainAnswers(behind, x)[3*block:]...)
		checkPull(t, f, 8*block, want)
	}
}

// TestSwapForLongerTaps: the new taps meet samples that the old ones had long left behind, and
// that were pulled.
func TestSwapForLongerTaps(t *testing.T) {
	r := rand.New(rand.NewSource(2))
	for _, block := range blocks {
		for _, ahead := range []int{0, block, 512, 1024 - block, 1024, 1024 + block, 2048} {
			x, taps := randomSamples(r, ahead+2048), randomTaps(r, 1024)
			f := mustNew(t, api.Config{Block: block, Room: 4096, Wait: 1}, 1)
			mustPush(t, f, x[:ahead]...)
			checkPull(t, f, ahead, x[:ahead])
			mustSwap(t, f, ahead+block, taps...)
			mustPush(t, f, x[ahead:]...)
			checkPull(t, f, block, x[ahead:ahead+block])
			if !slices.Equal(f.Pull(4096), plainAnswers(taps, x)[ahead+block:]) {
				t.Errorf("P11: blocks of %d, behind %d samples: the new taps' answers are wrong", block, ahead)
			}
		}
	}
}

// TestSwapForShorterTapsAndBack: what the long taps left behind is not seen with the short ones,
// and is all there when they come again.
func TestSwapForShorterTapsAndBack(t *testing.T) {
	r := rand.New(rand.NewSource(3))
	for _, block := range blocks {
		x, long := randomSamples(r, 2048), randomTaps(r, 1024)
		f := mustNew(t, api.Config{Block: block, Room: 2048, Wait: 1}, long...)
		mustPush(t, f, x[:1024-block]...)
		mustSwap(t, f, 1024, 5, -6)
		mustPush(t, f, x[1024-block:1536-block]...)
		mustSwap(t, f, 1536, long...)
		mustPush(t, f, x[1536-block:]...)
		want := plainAnswers(long, x)
		copy(want[1024:1536], plainAnswers([]int{5, -6}, x)[1024:1536])
		if !slices.Equal(f.Pull(2048), want) {
			t.Errorf("P11: blocks of %d: the answers are wrong", block)
		}
	}
}

// TestSwapForTheSameTaps: no sample changes (P13), wherever the swaps come.
func TestSwapForTheSameTaps(t *testing.T) {
	r := rand.New(rand.NewSource(4))
	for _, block := range blocks {
		taps, x := randomTaps(r, 1+r.Intn(1024)), randomSamples(r, 2048)
		f := mustNew(t, api.Config{Block: block, Room: 2048, Wait: 1}, taps...)
		for n := 0; n < len(x); n += 7 {
			mustPush(t, f, x[n:min(n+7, len(x))]...)
			if f.State().Pending == -1 {
				mustSwap(t, f, block*(f.State().Accepted/block+1), taps...)
			}
		}
		if !slices.Equal(f.Pull(2048), plainAnswers(taps, x)) {
			t.Errorf("P13: blocks of %d: swapping for the same taps changed a sample", block)
		}
	}
}
