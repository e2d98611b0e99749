package weave_test

import (
	"math/rand"
	"slices"
	"testing"

	"weave/api"
	"weave/weave"
)

// TestFilterLeavesItsListsAlone: taps and samples that are handed in, and their spare room, stay
// as they are, and are not kept.
func TestFilterLeavesItsListsAlone(t *testing.T) {
	r := rand.New(rand.NewSource(1))
	for _, block := range blocks {
		for _, count := range []int{1, block, 500} {
			wholeTaps, wholeNext, wholeX := randomTaps(r, 1024), randomTaps(r, 1024), randomSamples(r, 2048)
			taps, next, x := slices.Clone(wholeTaps), slices.Clone(wholeNext), slices.Clone(wholeX)
			f, e := weave.New(api.Config{Block: block, Room: 2048, Wait: 1}, wholeTaps[:count])
			if e != api.OK || !slices.Equal(wholeTaps, taps) {
				t.Fatalf("P1: New changed its taps: error %d", e)
			}
			clear(wholeTaps)
			mustPush(t, f, wholeX[:1000]...)
			s, e := f.Swap(wholeNext[:count])
			if e != api.OK || !slices.Equal(wholeNext, next) {
				t.Fatalf("P1: Swap changed its taps: error %d", e)
			}
			clear(wholeNext)
			if n, e := f.Push(wholeX[1000:2000]); n != 1000 || e != api.OK || !slices.Equal(wholeX, x) {
				t.Fatalf("P1: Push changed its samples: %d, error %d", n, e)
			}
			clear(wholeX)
			f.Flush()
			want := append(plainAnswers(taps[:count], x)[:s], plainAnswers(next[:count], x)[s:]...)
			if !slices.Equal(f.Pull(2000), want[:2000]) {
				t.Errorf("P1: blocks of %d: a list was kept", block)
			}
		}
	}
}

// TestFilterLeavesSpareRoomAlone: with samples that get less than all accepted too.
func TestFilterLeavesSpareRoomAlone(t *testing.T) {
	r := rand.New(rand.NewSource(2))
	f := mustNew(t, api.Config{Block: 16, Room: 40, Wait: 1}, 2, 3)
	whole := randomSamples(r, 100)
	before := slices.Clone(whole)
	for _, n := range []int{0, 5, 16, 60} {
		f.Push(whole[:n])
		f.Pull(7)
		f.Flush()
		if !slices.Equal(whole, before) {
			t.Fatalf("P1: Push of %d samples changed them, or their spare room", n)
		}
	}
}

func TestPullAnswersInNewMemory(t *testing.T) {
	r := rand.New(rand.NewSource(3))
	for _, block := range blocks {
		taps, x := randomTaps(r, 40), randomSamples(r, 10*block)
		own, want := slices.Clone(x), plainAnswers(taps, x)
		f := mustNew(t, api.Config{Block: block, Room: 5 * block, Wait: 1}, taps...)
		var lists, copies [][]int
		for pushed, pulled := 0, 0; pulled < len(x); {
			n, _ := f.Push(x[pushed:])
			pushed += n
			l := f.Pull(1 + r.Intn(2*block))
			if !slices.Equal(l, want[pulled:pulled+len(l)]) {
				t.Fatalf("P1: blocks of %d: an answer was written into", block)
			}
			pulled += len(l)
			for i := range l[:cap(l)] {
				l[:cap(l)][i] = -1
			}
			lists, copies = append(lists, l), append(copies, slices.Clone(l))
		}
		for i := range lists {
			if !slices.Equal(lists[i], copies[i]) {
				t.Fatalf("P1: blocks of %d: an answer changed when it was out", block)
			}
		}
		if !slices.Equal(x, own) {
			t.Errorf("P1: blocks of %d: an answer shares memory with the samples", block)
		}
	}
}

// TestFiltersAreApart: each from many goroutines' calls on others, with the same lists.
func TestFiltersAreApart(t *testing.T) {
	r := rand.New(rand.NewSource(4))
	taps, x := randomTaps(r, 200), randomSamples(r, 2048)
	want := plainAnswers(taps, x)
	done := make(chan bool)
	for i := range 8 {
		go func() {
			same := true
			for range 20 {
				c := api.Config{Block: blocks[i%len(blocks)], Room: 4096, Wait: 1}
				f, e := weave.New(c, taps)
				other, _ := weave.New(c, []int{1})
				same = same && e == api.OK
				for n := 0; n < len(x); n += 64 {
					f.Push(x[n : n+64])
					other.Push(x[n : n+32])
					other.Swap(taps[:1+n%100])
				}
				same = same && slices.Equal(f.Pull(2048), want)
			}
			done <- same
		}()
	}
	for range 8 {
		if !<-done {
			t.Error("P1: another filter's calls changed an answer")
		}
	}
}
