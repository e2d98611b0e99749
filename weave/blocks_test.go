package weave

import (
	"slices"
	"testing"

	"weave/api"
)

// TestWindowCount: so many blocks that the farthest sample is in one of them, and no more.
func TestWindowCount(t *testing.T) {
	for block := api.MinBlock; block <= api.MaxBlock; block *= 2 {
		for taps := 1; taps <= api.MaxTaps; taps++ {
			farthest := taps - 1
			want := 1
			for (want-1)*block < farthest {
				want++
			}
			if got := windowCount(taps, block); got != want {
				t.Fatalf("%d taps meet %d blocks of %d, want %d", taps, got, block, want)
			}
		}
	}
}

func TestWindowsAreTapsOfTwoBlocks(t *testing.T) {
	s := newShelf()
	taps := make([]int, 37)
	for i := range taps {
		taps[i] = i + 1
	}
	windows := s.windows(taps, 16)
	if len(windows) != 4 || len(s.tables) != 1 {
		t.Fatalf("%d windows, %d tables", len(windows), len(s.tables))
	}
	for j, window := range windows {
		want := make([]int, 32)
		for i := range want {
			if k := (j-1)*16 + i; k >= 0 && k < len(taps) {
				want[i] = taps[k]
			}
		}
		if got := liftAll(s.transform(window, true)); !slices.Equal(got, want) {
			t.Errorf("window %d has the taps %v, want %v", j, got, want)
		}
	}
}

// TestFilterKeepsNoMoreThanItNeeds: of a long stream, the blocks that the longest taps can meet,
// the samples of less than a block, and the taps that hold.
func TestFilterKeepsNoMoreThanItNeeds(t *testing.T) {
	for block := api.MinBlock; block <= api.MaxBlock; block *= 2 {
		f, _ := New(api.Config{Block: block, Room: 8 * block, Wait: 1}, []int{1})
		f.Swap(make([]int, api.MaxTaps))
		for i := range 5000 {
			f.Push([]int{i})
			f.Pull(1)
			whole := (i + 1) / block
			if got, want := f.blocks.Len(), min(whole, windowCount(api.MaxTaps, block)); got != want {
				t.Fatalf("behind %d blocks of %d: %d are kept, want %d", whole, block, got, want)
			}
			if f.samples.Len() != (i+1)%block {
				t.Fatalf("behind %d samples in blocks of %d: %d wait for their block", i+1, block, f.samples.Len())
			}
			if (f.next == nil) != (i+1 >= block) {
				t.Fatalf("behind %d samples in blocks of %d: the next taps are wrong", i+1, block)
			}
		}
	}
}

// TestMeetGivesItsBlocksBack: as they were, in their order.
func TestMeetGivesItsBlocksBack(t *testing.T) {
	f, _ := New(api.Config{Block: 16, Room: 64, Wait: 1}, []int{1, 2, 3})
	kept := [][]uint64{make([]uint64, 32), make([]uint64, 32), make([]uint64, 32)}
	for i := range kept {
		kept[i][0] = uint64(i + 1)
		f.keep(kept[i])
	}
	f.meet()
	back := f.blocks.Take(9)
	if len(back) != 3 {
		t.Fatalf("%d blocks came back", len(back))
	}
	for i := range kept {
		if &back[i][0] != &kept[i][0] || back[i][0] != uint64(i+1) {
			t.Errorf("block %d did not come back as it was", i)
		}
	}
}

// TestMeetGivesItsBlocksBackInAPanic: a way out too. No call gets there: all windows are as long
// as all blocks.
func TestMeetGivesItsBlocksBackInAPanic(t *testing.T) {
	f, _ := New(api.Config{Block: 16, Room: 64, Wait: 1}, []int{1})
	f.keep(make([]uint64, 3))
	defer func() {
		if recover() == nil {
			t.Error("a block of 3 elements went through")
		}
		if f.blocks.Len() != 1 {
			t.Error("the block was not given back")
		}
	}()
	f.meet()
}
