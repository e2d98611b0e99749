package ring_test

import (
	"math"
	"math/rand"
	"runtime"
	"slices"
	"strconv"
	"testing"
	"weak"

	"weave/ring"
)

func checkPut[T any](t *testing.T, r *ring.Ring[T], l []T, want int) {
	t.Helper()
	before := r.Len()
	if n := r.Put(l); n != want || r.Len() != before+want {
		t.Errorf("P4: Put of %d things beside %d: %d, want %d; Len() = %d", len(l), before, n, want, r.Len())
	}
}

func checkTake[T comparable](t *testing.T, r *ring.Ring[T], n int, want ...T) {
	t.Helper()
	before := r.Len()
	if l := r.Take(n); !slices.Equal(l, want) || r.Len() != before-len(want) {
		t.Errorf("P4: Take(%d) = %v, want %v; Len() = %d", n, l, want, r.Len())
	}
}

func numbers(from, count int) []int {
	out := make([]int, count)
	for i := range out {
		out[i] = from + i
	}
	return out
}

func TestExample(t *testing.T) {
	r := ring.New[int](3)
	checkPut(t, r, []int{1, 2, 3, 4}, 3)
	checkTake(t, r, 2, 1, 2)
	checkPut(t, r, []int{5, 6, 7}, 2)
	checkTake(t, r, 9, 3, 5, 6)
}

func TestNewIsEmpty(t *testing.T) {
	for _, room := range []int{math.MinInt, -1, 0, 1, 2, 1000, math.MaxInt} {
		r := ring.New[int](room)
		if r == nil || r.Len() != 0 {
			t.Fatalf("P4: a new ring with room for %d is not empty", room)
		}
		for _, n := range []int{math.MinInt, -1, 0, 1, math.MaxInt} {
			checkTake(t, r, n)
		}
	}
}

func TestNoRoom(t *testing.T) {
	for _, room := range []int{0, -1, -2, -1000, math.MinInt32, math.MinInt + 1, math.MinInt} {
		r := ring.New[int](room)
		for range 3 {
			checkPut(t, r, nil, 0)
			checkPut(t, r, []int{1}, 0)
			checkPut(t, r, numbers(1, 100), 0)
			checkTake(t, r, 1)
			checkTake(t, r, -1)
		}
	}
}

func TestRoomIsUsedUp(t *testing.T) {
	for room := range 40 {
		for count := range 45 {
			r := ring.New[int](room)
			fits := min(room, count)
			checkPut(t, r, numbers(1, count), fits)
			checkPut(t, r, numbers(100, 50), room-fits)
			checkPut(t, r, []int{7}, 0)
			checkTake(t, r, room+1, append(numbers(1, fits), numbers(100, room-fits)...)...)
		}
	}
}

func TestRoomIsUsedUpOneByOne(t *testing.T) {
	for room := range 70 {
		r := ring.New[int](room)
		for i := range room {
			checkPut(t, r, []int{i}, 1)
		}
		checkPut(t, r, []int{-1}, 0)
		checkTake(t, r, room, numbers(0, room)...)
		checkTake(t, r, 1)
	}
}

func TestTakeOfNoneChangesNothing(t *testing.T) {
	r := ring.New[int](4)
	r.Put([]int{1, 2, 3})
	for _, n := range []int{0, -1, -2, -3, -4, math.MinInt32, math.MinInt + 1, math.MinInt} {
		checkTake(t, r, n)
	}
	checkPut(t, r, []int{4, 5}, 1)
	checkTake(t, r, 4, 1, 2, 3, 4)
}

func TestTakeOfMoreThanThereAre(t *testing.T) {
	for _, n := range []int{3, 4, 5, 1000, math.MaxInt32, math.MaxInt} {
		r := ring.New[int](4)
		r.Put([]int{1, 2, 3})
		checkTake(t, r, n, 1, 2, 3)
		checkTake(t, r, n)
		checkPut(t, r, []int{4, 5, 6, 7, 8}, 4)
		checkTake(t, r, 3, 4, 5, 6)
		checkTake(t, r, n, 7)
	}
}

func TestEmptyLists(t *testing.T) {
	r := ring.New[int](2)
	for _, l := range [][]int{nil, {}, make([]int, 0, 5)} {
		checkPut(t, r, l, 0)
	}
	checkPut(t, r, []int{1, 2}, 2)
	for _, l := range [][]int{nil, {}, make([]int, 0, 5)} {
		checkPut(t, r, l, 0)
	}
	checkTake(t, r, 2, 1, 2)
}

// TestGoesRound: at every small room, from every place, over the end by every length.
func TestGoesRound(t *testing.T) {
	for room := 1; room <= 9; room++ {
		for start := range 2 * room {
			for count := range room + 1 {
				r := ring.New[int](room)
				checkPut(t, r, make([]int, room), room)
				checkTake(t, r, room, make([]int, room)...)
				for i := range start {
					checkPut(t, r, []int{-i}, 1)
					checkTake(t, r, 1, -i)
				}
				checkPut(t, r, numbers(1, count), count)
				for taken := range count + 1 {
					checkTake(t, r, taken, numbers(1, taken)...)
					checkPut(t, r, numbers(count+1, room), room-count+taken)
					all := append(numbers(taken+1, count-taken), numbers(count+1, room-count+taken)...)
					checkTake(t, r, room, all...)
					checkPut(t, r, numbers(1, count), count)
				}
			}
		}
	}
}

// TestGrowsWhileGoneRound: things that lie over the end when more slots are needed.
func TestGrowsWhileGoneRound(t *testing.T) {
	for first := 1; first <= 9; first++ {
		for taken := range first + 1 {
			for more := range 30 {
				r := ring.New[int](1000)
				checkPut(t, r, numbers(1, first), first)
				checkTake(t, r, taken, numbers(1, taken)...)
				checkPut(t, r, numbers(first+1, taken), taken)
				checkPut(t, r, numbers(first+taken+1, more), more)
				checkTake(t, r, 1000, numbers(taken+1, first+more)...)
			}
		}
	}
}

func TestDrawn(t *testing.T) {
	draw := rand.New(rand.NewSource(1))
	for range 400 {
		room := draw.Intn(1 << draw.Intn(8))
		r, next := ring.New[int](room), 0
		var model []int
		for range 200 {
			if draw.Intn(2) == 0 {
				l := numbers(next, draw.Intn(room+3))
				fits := min(len(l), room-len(model))
				checkPut(t, r, l, fits)
				model = append(model, l[:fits]...)
				next += fits
			} else {
				n := draw.Intn(room+4) - 1
				out := max(0, min(n, len(model)))
				checkTake(t, r, n, model[:out]...)
				model = model[out:]
			}
		}
	}
}

func TestRoomGreaterThanMemory(t *testing.T) {
	for _, room := range []int{1 << 40, 1 << 60, math.MaxInt - 1, math.MaxInt} {
		r := ring.New[[64]int](room)
		for i := range 100 {
			checkPut(t, r, [][64]int{{i}, {63: i}}, 2)
		}
		l := r.Take(room)
		if len(l) != 200 || l[198][0] != 99 || l[199][63] != 99 {
			t.Errorf("P4: room for %d things: %d came out", room, len(l))
		}
	}
}

// TestUnusedRoomNeedsNoMemory: a thousand rings that, with their rooms, would take 64 GiB.
func TestUnusedRoomNeedsNoMemory(t *testing.T) {
	var before, behind runtime.MemStats
	runtime.ReadMemStats(&before)
	rings := make([]*ring.Ring[[64]int], 1000)
	for i := range rings {
		rings[i] = ring.New[[64]int](1 << 17)
		rings[i].Put([][64]int{{i}})
	}
	runtime.ReadMemStats(&behind)
	if used := behind.TotalAlloc - before.TotalAlloc; used > 4<<20 {
		t.Errorf("P4: a thousand rings with a thing each took %d bytes", used)
	}
	runtime.KeepAlive(rings)
}

// TestThingsWithoutSize: of these a list of any length needs no memory, so all lengths occur.
func TestThingsWithoutSize(t *testing.T) {
	lengths := []int{math.MaxInt - 2, 5, 1, math.MaxInt, 1 << 61, 0, 1 << 62, math.MaxInt - 1, 3}
	for _, room := range []int{5, 1 << 62, math.MaxInt - 1, math.MaxInt} {
		r, count := ring.New[struct{}](room), 0
		for _, put := range lengths {
			for _, take := range lengths {
				fits := min(put, room-count)
				checkPut(t, r, make([]struct{}, put), fits)
				count += fits
				out := min(take, count)
				if l := r.Take(take); len(l) != out || r.Len() != count-out {
					t.Fatalf("P4: Take(%d) of %d things without size: %d", take, count, len(l))
				}
				count -= out
			}
		}
	}
}

type thing struct {
	name  string
	parts [2]float64
	n     *int
}

// checkKind sends things of a kind through a ring that goes round and grows.
func checkKind[T comparable](t *testing.T, things ...T) {
	t.Helper()
	r := ring.New[T](2*len(things) + 1)
	for range 3 {
		checkPut(t, r, things[:1], 1)
		checkTake(t, r, 1, things[0])
		checkPut(t, r, things, len(things))
		checkPut(t, r, things, len(things))
		checkPut(t, r, things, 1)
		checkTake(t, r, len(things), things...)
		checkTake(t, r, 2*len(things), slices.Concat(things, things[:1])...)
	}
}

func TestKinds(t *testing.T) {
	n, c := 1, make(chan int)
	checkKind(t, 1, 0, math.MinInt, math.MaxInt)
	checkKind[uint8](t, 255, 0, 1)
	checkKind(t, true, false, true)
	checkKind(t, "", "a", "bc", "\xff")
	checkKind(t, 1.5, math.Inf(-1), 0)
	checkKind(t, 1i, 2)
	checkKind(t, &n, nil, new(int))
	checkKind(t, c, nil)
	checkKind[any](t, nil, 1, "a", &n, struct{}{})
	checkKind[error](t, nil, strconv.ErrRange, strconv.ErrSyntax)
	checkKind(t, [3]int{1, 2, 3}, [3]int{})
	checkKind(t, thing{"a", [2]float64{1, 2}, &n}, thing{}, thing{n: &n})
	checkKind(t, struct{}{}, struct{}{})
	checkKind(t, ring.New[int](1), nil, ring.New[int](1))
}

// stubborn panics whoever looks at it.
type stubborn struct{ l []int }

func (stubborn) String() string     { panic("looked at") }
func (stubborn) Error() string      { panic("looked at") }
func (stubborn) Equal(any) bool     { panic("looked at") }
func (stubborn) Clone() stubborn    { panic("looked at") }
func (stubborn) Compare(any) int    { panic("looked at") }
func (stubborn) IsZero() bool       { panic("looked at") }
func (stubborn) Less(stubborn) bool { panic("looked at") }

// TestThingsAreNotLookedAt: kinds that can not be compared, nor used as keys.
func TestThingsAreNotLookedAt(t *testing.T) {
	odd := []any{stubborn{[]int{1}}, []int{2}, map[int]int{3: 4}, func() int { return 5 }, nil, (*int)(nil), math.NaN()}
	r := ring.New[any](2 * len(odd))
	checkPut(t, r, odd[:3], 3)
	if l := r.Take(2); l[0].(stubborn).l[0] != 1 || l[1].([]int)[0] != 2 {
		t.Error("P4: things came out changed")
	}
	checkPut(t, r, odd, len(odd))
	l := r.Take(99)
	if len(l) != len(odd)+1 || l[0].(map[int]int)[3] != 4 || l[4].(func() int)() != 5 || l[5] != nil || l[6] == nil {
		t.Error("P4: things came out changed")
	}
	if f := l[7].(float64); f == f {
		t.Error("P4: what is no number came out as one")
	}
}

// TestThingsAreKeptAsTheyAre: a thing that points somewhere points there still.
func TestThingsAreKeptAsTheyAre(t *testing.T) {
	inner, m := make([]int, 2, 5), map[string]int{}
	lists, maps := ring.New[[]int](3), ring.New[map[string]int](3)
	checkPut(t, lists, [][]int{inner, nil, {}}, 3)
	checkPut(t, maps, []map[string]int{m, nil}, 2)
	inner[1], m["a"] = 7, 8
	l, k := lists.Take(3), maps.Take(2)
	if &l[0][0] != &inner[0] || len(l[0]) != 2 || cap(l[0]) != 5 || l[0][1] != 7 || l[1] != nil || l[2] == nil {
		t.Error("P4: lists came out changed")
	}
	if k[0]["a"] != 8 || k[1] != nil {
		t.Error("P4: maps came out changed")
	}
	bits := []float64{math.Float64frombits(0x7ff8000000000123), math.Copysign(0, -1)}
	floats := ring.New[float64](2)
	floats.Put(bits)
	for i, f := range floats.Take(2) {
		if math.Float64bits(f) != math.Float64bits(bits[i]) {
			t.Errorf("P4: the float %d came out changed", i)
		}
	}
}

func TestPutLeavesItsListAlone(t *testing.T) {
	for room := range 12 {
		for count := range 9 {
			r := ring.New[int](room)
			r.Put(numbers(-room, room))
			r.Take(room/2 + 1)
			r.Put([]int{0})
			r.Take(room)
			whole := numbers(1, 20)
			fits := min(count, room)
			checkPut(t, r, whole[3:3+count], fits)
			checkPut(t, r, []int{50, 51}, min(2, room-fits))
			if !slices.Equal(whole, numbers(1, 20)) {
				t.Errorf("P1: a list of %d, or its spare room, was changed", count)
			}
			clear(whole)
			checkTake(t, r, fits, numbers(4, fits)...)
			if !slices.Equal(whole, make([]int, 20)) {
				t.Error("P1: a list that was put in earlier was changed")
			}
		}
	}
}

func TestTakeAnswersInNewMemory(t *testing.T) {
	for start := range 8 {
		for count := range 9 {
			r := ring.New[int](8)
			r.Put(numbers(0, 8))
			r.Take(start)
			r.Put(numbers(0, start))
			r.Take(8)
			list := numbers(1, 8)
			r.Put(list)
			first := r.Take(count)
			second := r.Take(2)
			spoil(first)
			checkPut(t, r, list, 8-r.Len())
			spoil(first)
			if !slices.Equal(second, list[count:min(8, count+2)]) || !slices.Equal(list, numbers(1, 8)) {
				t.Fatal("P1: an answer shares memory with another, or with a list")
			}
			left := list[min(8, count+2):]
			checkTake(t, r, 8, slices.Concat(left, list[:8-len(left)])...)
			for _, n := range first[:cap(first)] {
				if n != -1 {
					t.Fatal("P1: an answer, or its spare room, was written to later")
				}
			}
		}
	}
}

func spoil(l []int) {
	l = l[:cap(l)]
	for i := range l {
		l[i] = -1
	}
}

// TestPutOfWhatWasTaken: an answer is a list like any other.
func TestPutOfWhatWasTaken(t *testing.T) {
	r := ring.New[int](5)
	r.Put(numbers(0, 5))
	for i := range 20 {
		l := r.Take(3)
		checkPut(t, r, l, 3)
		if l[0] != i*3%5 {
			t.Fatalf("P4: %d came first", l[0])
		}
	}
}

// TestTakenThingsAreNotHeld: what went out is gone, though the ring lives on.
func TestTakenThingsAreNotHeld(t *testing.T) {
	for start := range 5 {
		r := ring.New[*[100]int](5)
		r.Put(make([]*[100]int, 5))
		r.Take(start)
		r.Put(make([]*[100]int, start))
		r.Take(5)
		gone := make([]weak.Pointer[[100]int], 5)
		for i := range gone {
			p := &[100]int{}
			gone[i] = weak.Make(p)
			r.Put([]*[100]int{p})
		}
		r.Take(4)
		runtime.GC()
		for i, p := range gone {
			if held := p.Value() != nil; held != (i == 4) {
				t.Errorf("P4: behind a Take of 4 the thing %d is held: %v", i, held)
			}
		}
		runtime.KeepAlive(r)
	}
}

func TestRingsAreApart(t *testing.T) {
	a, b := ring.New[int](4), ring.New[int](4)
	checkPut(t, a, []int{1, 2, 3}, 3)
	if b.Len() != 0 {
		t.Error("P1: a ring holds what was put into another")
	}
	checkPut(t, b, []int{4, 5, 6, 7, 8}, 4)
	checkTake(t, a, 2, 1, 2)
	checkTake(t, b, 9, 4, 5, 6, 7)
	checkTake(t, a, 9, 3)
}

func TestRingsOfManyGoroutines(t *testing.T) {
	done := make(chan bool)
	for g := range 8 {
		go func() {
			r, same := ring.New[int](7+g), true
			for i := range 2000 {
				r.Put([]int{i, i + 1, i + 2})
				same = same && slices.Equal(r.Take(3), []int{i, i + 1, i + 2})
			}
			done <- same
		}()
	}
	for range 8 {
		if !<-done {
			t.Error("P1: a ring of another goroutine changed an answer")
		}
	}
}
