package weave_test

import (
	"math"
	"math/rand"
	"slices"
	"testing"

	"weave/api"
)

// TestStreamsInAllSizes: the answer hangs neither on the pieces in which samples come and go,
// nor on blocks and room (P13).
func TestStreamsInAllSizes(t *testing.T) {
	r := rand.New(rand.NewSource(1))
	for _, count := range []int{1, 2, 17, 100, 1000, 1024} {
		taps, x := randomTaps(r, count), randomSamples(r, 3000)
		want := plainAnswers(taps, x)
		for _, block := range blocks {
			for _, room := range []int{2 * block, 2*block + 1, 3*block - 1, 5000, 65536} {
				for _, most := range []int{1, 10, block, 2000} {
					f := mustNew(t, api.Config{Block: block, Room: room, Wait: 1}, taps...)
					got := stream(t, f, x, func() int { return 1 + r.Intn(most) })
					if len(got) < len(x) || !slices.Equal(got[:len(x)], want) {
						t.Fatalf("P13: %d taps, blocks of %d, room %d, pieces up to %d: the answers are wrong", count, block, room, most)
					}
				}
			}
		}
	}
}

// TestLongStream: many times as many samples as there is room, so that all that waits has come
// round many times.
func TestLongStream(t *testing.T) {
	r := rand.New(rand.NewSource(2))
	taps, x := randomTaps(r, 64), randomSamples(r, 300000)
	f := mustNew(t, api.Config{Block: 16, Room: 50, Wait: 1}, taps...)
	got := stream(t, f, x, func() int { return 1 + r.Intn(60) })
	if len(got) != len(x) || !slices.Equal(got, plainAnswers(taps, x)) {
		t.Errorf("P9: %d answers of %d samples are wrong", len(got), len(x))
	}
}

// TestFilterIsThePlainOne: calls of all kinds, right and wrong, drawn one after the other, answer
// as the document's words do.
func TestFilterIsThePlainOne(t *testing.T) {
	r := rand.New(rand.NewSource(3))
	for range 200 {
		block := blocks[r.Intn(len(blocks))]
		c := api.Config{Block: block, Room: 2*block + r.Intn(3*block), Wait: 1 + r.Intn(4)}
		taps := randomTaps(r, 1+r.Intn(1024))
		f, plain := mustNew(t, c, taps...), &plainFilter{c: c, parts: []part{{0, taps}}}
		for range 150 {
			switch r.Intn(8) {
			case 0, 1, 2:
				l := randomSamples(r, r.Intn(3*block))
				n, e := f.Push(l)
				if m, d := plain.push(l); n != m || e != d {
					t.Fatalf("P9: %+v: Push of %d: %d, error %d, want %d, error %d", c, len(l), n, e, m, d)
				}
			case 3, 4:
				n := r.Intn(3*block) - 10
				if got, want := f.Pull(n), plain.pull(n); !slices.Equal(got, want) {
					t.Fatalf("P9: %+v: Pull(%d) is wrong", c, n)
				}
			case 5:
				n, e := f.Flush()
				if m, d := plain.flush(); n != m || e != d {
					t.Fatalf("P10: %+v: Flush: %d, error %d, want %d, error %d", c, n, e, m, d)
				}
			case 6:
				l, wrong := randomTaps(r, 1+r.Intn(1024)), r.Intn(4) == 0
				if wrong {
					l[r.Intn(len(l))] = api.MaxNorm + 1
				}
				n, e := f.Swap(l)
				if m, d := plain.swap(l, wrong); n != m || e != d {
					t.Fatalf("P11: %+v: Swap: %d, error %d, want %d, error %d", c, n, e, m, d)
				}
			case 7:
				l := randomSamples(r, 1+r.Intn(2*block))
				l[r.Intn(len(l))] = []int{math.MinInt32 - 1, math.MaxInt32 + 1, math.MinInt, math.MaxInt}[r.Intn(4)]
				if n, e := f.Push(l); n != 0 || e != api.ErrSample {
					t.Fatalf("P9: %+v: Push of no sample: %d, error %d", c, n, e)
				}
			}
			if got, want := f.State(), plain.state(); got != want {
				t.Fatalf("P12: %+v: State = %+v, want %+v", c, got, want)
			}
		}
	}
}
