package weave_test

import (
	"math"
	"math/rand"
	"slices"
	"testing"

	"weave/api"
	"weave/weave"
)

var (
	small  = api.Config{Block: 16, Room: 64, Wait: 1}
	blocks = []int{16, 32, 64, 128, 256}
)

func TestFilterExample(t *testing.T) {
	f := mustNew(t, small, 1, 1)
	checkState(t, f, 0, 0, 0, -1)
	mustPush(t, f, append([]int{1, 2, 3}, make([]int, 14)...)...)
	checkPull(t, f, 99, append([]int{1, 3, 5, 3}, make([]int, 12)...))
	checkState(t, f, 17, 16, 0, -1)
	mustSwap(t, f, 32, 2)
	checkState(t, f, 17, 16, 0, 32)
}

func checkNew(t *testing.T, c api.Config, taps []int, want api.Errno) {
	t.Helper()
	f, e := weave.New(c, taps)
	if e != want || (f == nil) != (want != api.OK) {
		t.Errorf("P8: New(%+v) with the taps %.5v: error %d, want %d", c, taps, e, want)
	}
}

func okIf(ok bool, other api.Errno) api.Errno {
	if ok {
		return api.OK
	}
	return other
}

func TestNewBlocks(t *testing.T) {
	for n := -20; n <= 1100; n++ {
		want := okIf(slices.Contains(blocks, n), api.ErrConfig)
		checkNew(t, api.Config{Block: n, Room: 4096, Wait: 1}, []int{1}, want)
	}
	for _, n := range []int{math.MinInt, math.MinInt + 1, -256, 1 << 16, 1 << 32, 1<<32 + 16, 1 << 62, math.MaxInt} {
		for _, room := range []int{0, 1, 512, 65536} {
			checkNew(t, api.Config{Block: n, Room: room, Wait: 1}, []int{1}, api.ErrConfig)
		}
	}
}

func TestNewRooms(t *testing.T) {
	for _, block := range blocks {
		rooms := []int{math.MinInt, -1, 0, 1, 65534, 65535, 65536, 65537, 1 << 17, 1<<32 + 512, math.MaxInt}
		for n := block - 2; n <= 2*block+2; n++ {
			rooms = append(rooms, n)
		}
		for _, n := range rooms {
			want := okIf(n >= 2*block && n <= 65536, api.ErrConfig)
			checkNew(t, api.Config{Block: block, Room: n, Wait: 1}, []int{1}, want)
		}
	}
}

func TestNewWaits(t *testing.T) {
	waits := []int{math.MinInt, 1<<32 + 1, math.MaxInt}
	for n := -3; n <= 70; n++ {
		waits = append(waits, n)
	}
	for _, n := range waits {
		want := okIf(n >= 1 && n <= 64, api.ErrConfig)
		checkNew(t, api.Config{Block: 16, Room: 64, Wait: n}, []int{1}, want)
	}
}

// tapsCase is a list, and whether its numbers may be taps.
type tapsCase struct {
	taps []int
	ok   bool
}

func tapsCases() map[string]tapsCase {
	many := func(n, tap int) []int { return slices.Repeat([]int{tap}, n) }
	return map[string]tapsCase{
		"nil":                        {nil, false},
		"none":                       {[]int{}, false},
		"one":                        {[]int{1}, true},
		"one of 0":                   {[]int{0}, true},
		"as many as may be":          {many(1024, 0), true},
		"one more":                   {many(1025, 0), false},
		"far more":                   {many(4096, 0), false},
		"the greatest":               {[]int{1 << 31}, true},
		"the least":                  {[]int{-1 << 31}, true},
		"one more than the greatest": {[]int{1<<31 + 1}, false},
		"one less than the least":    {[]int{-1<<31 - 1}, false},
		"the greatest and 0":         {[]int{0, 0, 1 << 31, 0}, true},
		"the greatest and 1":         {[]int{1 << 31, 1}, false},
		"the greatest and -1":        {[]int{1 << 31, -1}, false},
		"the least and 1":            {[]int{1, -1 << 31}, false},
		"two halves":                 {[]int{1 << 30, -1 << 30}, true},
		"two halves and -1":          {[]int{1 << 30, 1 << 30, -1}, false},
		"many":                       {many(1024, 1<<21), true},
		"many below 0":               {many(1024, -1<<21), true},
		"many and one more":          {append(many(1023, 1<<21), 1<<21+1), false},
		"many and one less":          {append(many(1023, -1<<21), -1<<21-1), false},
		"one after another":          {many(3, 1<<31), false},
		"two to the power 32":        {[]int{1 << 32}, false},
		"least int":                  {[]int{math.MinInt}, false},
		"two of them, sum 0":         {[]int{math.MinInt, math.MinInt}, false},
		"greatest int":               {[]int{math.MaxInt}, false},
		"a sum that comes round":     {[]int{math.MaxInt, math.MaxInt, 2}, false},
		"many, their sum 0":          {many(1024, 1<<54), false},
		"greatest int and its minus": {[]int{math.MaxInt, -math.MaxInt}, false},
		"least int and 1":            {[]int{1, math.MinInt, 1}, false},
		"a last one too great":       {append(many(1023, 0), 1<<31+1), false},
	}
}

func TestNewTaps(t *testing.T) {
	for name, c := range tapsCases() {
		t.Run(name, func(t *testing.T) {
			for _, block := range blocks {
				config := api.Config{Block: block, Room: 512, Wait: 1}
				checkNew(t, config, c.taps, okIf(c.ok, api.ErrTaps))
			}
		})
	}
}

func TestNewTellsTheFirstError(t *testing.T) {
	for _, c := range []api.Config{{}, {Block: 16, Room: 64}, {Block: 16, Room: 31, Wait: 1}, {Block: 17, Room: 64, Wait: 1}} {
		for _, taps := range [][]int{nil, {1 << 32}, make([]int, 2000)} {
			checkNew(t, c, taps, api.ErrConfig)
		}
	}
}

func TestPushReadiesWholeBlocks(t *testing.T) {
	for _, block := range blocks {
		f := mustNew(t, api.Config{Block: block, Room: 4 * block, Wait: 1}, 7)
		for a := 1; a <= 4*block; a++ {
			mustPush(t, f, a)
			checkState(t, f, a, 0, block*(a/block), -1)
		}
		for a := 1; a <= 4*block; a++ {
			checkPull(t, f, 1, []int{7 * a})
			checkState(t, f, 4*block, a, 4*block-a, -1)
		}
		checkPull(t, f, 1, nil)
	}
}

func TestPushTakesWhatThereIsRoomFor(t *testing.T) {
	for _, room := range []int{32, 33, 40, 47, 48, 100, 65536} {
		f := mustNew(t, api.Config{Block: 16, Room: room, Wait: 1}, 1)
		x := make([]int, room+50)
		for i := range x {
			x[i] = i
		}
		if n, e := f.Push(x); n != room || e != api.OK {
			t.Fatalf("P9: with room for %d: %d, error %d", room, n, e)
		}
		for _, l := range [][]int{{1}, nil, {}, x} {
			if n, e := f.Push(l); n != 0 || e != api.OK {
				t.Errorf("P9: with no room: %d, error %d", n, e)
			}
		}
		checkState(t, f, room, 0, room/16*16, -1)
		checkPull(t, f, 3, x[:3])
		if n, e := f.Push(x[room:]); n != 3 || e != api.OK {
			t.Errorf("P9: with room for 3: %d, error %d", n, e)
		}
		checkState(t, f, room+3, 3, (room+3)/16*16-3, -1)
		checkPull(t, f, room, x[3:(room+3)/16*16])
	}
}

func TestPushOfNothing(t *testing.T) {
	f := mustNew(t, small, 1)
	for _, l := range [][]int{nil, {}} {
		if n, e := f.Push(l); n != 0 || e != api.OK {
			t.Errorf("P9: Push of nothing: %d, error %d", n, e)
		}
	}
	checkState(t, f, 0, 0, 0, -1)
}

func TestPushOfNoSamples(t *testing.T) {
	f := mustNew(t, small, 1)
	mustPush(t, f, math.MinInt32, math.MaxInt32, 0)
	for fill := 3; fill <= 64; fill++ {
		for _, wrong := range []int{math.MinInt32 - 1, math.MaxInt32 + 1, 1 << 32, -1 << 32, math.MinInt, math.MaxInt} {
			for _, place := range []int{0, 1, 16, 99} {
				// Also where there is no room for it.
				l := make([]int, 100)
				l[place] = wrong
				if n, e := f.Push(l); n != 0 || e != api.ErrSample {
					t.Fatalf("P9: Push with %d at %d: %d, error %d", wrong, place, n, e)
				}
			}
		}
		checkState(t, f, fill, 0, fill/16*16, -1)
		f.Push([]int{fill})
	}
	want := []int{math.MinInt32, math.MaxInt32, 0}
	for n := 3; n < 64; n++ {
		want = append(want, n)
	}
	checkPull(t, f, 64, want)
}

func TestPull(t *testing.T) {
	f := mustNew(t, small, 1)
	for _, n := range []int{math.MinInt, -1, 0, 1, math.MaxInt} {
		checkPull(t, f, n, nil)
	}
	x := make([]int, 40)
	for i := range x {
		x[i] = i + 1
	}
	mustPush(t, f, x...)
	for _, n := range []int{math.MinInt, -32, -1, 0} {
		checkPull(t, f, n, nil)
		checkState(t, f, 40, 0, 32, -1)
	}
	checkPull(t, f, 1, x[:1])
	checkPull(t, f, 20, x[1:21])
	checkState(t, f, 40, 21, 11, -1)
	checkPull(t, f, math.MaxInt, x[21:32])
	checkState(t, f, 40, 32, 0, -1)
	checkPull(t, f, math.MaxInt, nil)
	mustPush(t, f, make([]int, 8)...)
	checkPull(t, f, 16, append(x[32:40:40], make([]int, 8)...))
}

func TestFlush(t *testing.T) {
	for _, block := range blocks {
		f := mustNew(t, api.Config{Block: block, Room: 2 * block, Wait: 1}, 1, 1)
		for fill := range block + 1 {
			mustPush(t, f, slices.Repeat([]int{5}, fill)...)
			missing := (block - fill%block) % block
			if n, e := f.Flush(); n != missing || e != api.OK {
				t.Fatalf("P10: Flush with %d samples in blocks of %d: %d, error %d", fill, block, n, e)
			}
			if n, e := f.Flush(); n != 0 || e != api.OK {
				t.Fatalf("P10: Flush of whole blocks: %d, error %d", n, e)
			}
			if s := f.State(); s.Accepted%block != 0 || s.Ready != (fill+missing) {
				t.Fatalf("P10: behind Flush: %+v", s)
			}
			if got := f.Pull(2 * block); fill > 1 && fill < block && (got[0] != 5 || got[1] != 10 || got[fill] != 5) {
				t.Fatalf("P10: the answers with %d samples are wrong: %v", fill, got)
			}
			// The last 5 of a full block reaches into the next one.
			mustPush(t, f, make([]int, block)...)
			f.Pull(block)
		}
	}
}

func TestFlushWithoutRoom(t *testing.T) {
	for room := 33; room < 48; room++ {
		for fill := 33; fill <= room; fill++ {
			f := mustNew(t, api.Config{Block: 16, Room: room, Wait: 1}, 1)
			mustPush(t, f, slices.Repeat([]int{3}, fill)...)
			for pulled := range 48 - room {
				if n, e := f.Flush(); n != 0 || e != api.ErrRoom {
					t.Fatalf("P10: Flush of %d with room for %d in all: %d, error %d", fill-pulled, room, n, e)
				}
				checkState(t, f, fill, pulled, 32-pulled, -1)
				checkPull(t, f, 1, []int{3})
			}
			if n, e := f.Flush(); n != 48-fill || e != api.OK {
				t.Fatalf("P10: Flush with just enough room: %d, error %d", n, e)
			}
			checkState(t, f, 48, 48-room, room, -1)
			checkPull(t, f, 99, append(slices.Repeat([]int{3}, fill-(48-room)), make([]int, 48-fill)...))
		}
	}
}

// TestAnswersOfAllTapCounts: around whole blocks of taps, the last tap just reaches one block
// more, or just does not.
func TestAnswersOfAllTapCounts(t *testing.T) {
	r := rand.New(rand.NewSource(1))
	for _, block := range blocks {
		for back := range 4 {
			for n := back*block - 2; n <= back*block+3; n++ {
				if n > 0 {
					checkAnswers(t, block, randomTaps(r, n), randomSamples(r, 6*block))
				}
			}
		}
		for _, n := range []int{1024, 1023, 1024 - block, 1025 - block, 1026 - block} {
			checkAnswers(t, block, randomTaps(r, n), randomSamples(r, 1024+3*block))
		}
	}
}

func checkAnswers(t *testing.T, block int, taps, x []int) {
	t.Helper()
	f := mustNew(t, api.Config{Block: block, Room: 4096, Wait: 1}, taps...)
	mustPush(t, f, x...)
	if !slices.Equal(f.Pull(len(x)), plainAnswers(taps, x)) {
		t.Errorf("P9: blocks of %d, %d taps: the answers are wrong", block, len(taps))
	}
}

// TestEachTapMeetsItsSample: one tap and one sample that are not 0, so that the answer must
// stand at one place alone.
func TestEachTapMeetsItsSample(t *testing.T) {
	for _, block := range []int{16, 256} {
		for k := 0; k < 1024; k += 13 {
			for _, at := range []int{0, 1, block - 1, block, 700} {
				taps, x := make([]int, k+1), make([]int, 2048)
				taps[k], x[at] = -3, 1<<31-1
				want := make([]int, 2048)
				want[at+k] = -3 * (1<<31 - 1)
				f := mustNew(t, api.Config{Block: block, Room: 2048, Wait: 1}, taps...)
				mustPush(t, f, x...)
				if !slices.Equal(f.Pull(2048), want) {
					t.Fatalf("P9: blocks of %d: tap %d and sample %d did not meet", block, k, at)
				}
			}
		}
	}
}

func TestGreatestAnswers(t *testing.T) {
	for _, block := range blocks {
		for _, sample := range []int{math.MinInt32, math.MaxInt32} {
			for _, count := range []int{1, 2, 16, 512, 1024} {
				for _, sign := range []int{-1, 1} {
					taps := slices.Repeat([]int{sign * api.MaxNorm / count}, count)
					f := mustNew(t, api.Config{Block: block, Room: 2048, Wait: 1}, taps...)
					mustPush(t, f, slices.Repeat([]int{sample}, 2048)...)
					got := f.Pull(2048)
					for n, y := range got {
						if want := sign * api.MaxNorm / count * min(n+1, count) * sample; y != want {
							t.Fatalf("P9: blocks of %d, %d taps: y[%d] = %d, want %d", block, count, n, y, want)
						}
					}
				}
			}
		}
	}
}
