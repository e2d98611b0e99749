package heap_test

import (
	"cmp"
	"math/rand"
	"slices"
	"strings"
	"testing"

	"weave/heap"
)

func popAll[T any](h *heap.Heap[T]) []T {
	var out []T
	for thing, ok := h.Pop(); ok; thing, ok = h.Pop() {
		out = append(out, thing)
	}
	return out
}

func TestHeapSorts(t *testing.T) {
	r := rand.New(rand.NewSource(1))
	for n := range 200 {
		h := heap.New(cmp.Less[int])
		l := make([]int, n)
		for i := range l {
			l[i] = r.Intn(n)
			h.Push(l[i])
		}
		slices.Sort(l)
		if got := popAll(h); !slices.Equal(got, l) {
			t.Errorf("%d things came out as %v, want %v", n, got, l)
		}
	}
}

// TestHeapSortsAllOrders: each order in which seven things can be pushed.
func TestHeapSortsAllOrders(t *testing.T) {
	want := []int{0, 1, 2, 3, 4, 5, 6}
	var permute func(l []int, from int)
	permute = func(l []int, from int) {
		if from == len(l) {
			h := heap.New(cmp.Less[int])
			for _, n := range l {
				h.Push(n)
			}
			if got := popAll(h); !slices.Equal(got, want) {
				t.Errorf("%v came out as %v", l, got)
			}
			return
		}
		for i := from; i < len(l); i++ {
			l[from], l[i] = l[i], l[from]
			permute(l, from+1)
			l[from], l[i] = l[i], l[from]
		}
	}
	permute(slices.Clone(want), 0)
}

func TestHeapWhileThingsCome(t *testing.T) {
	r := rand.New(rand.NewSource(2))
	h := heap.New(cmp.Less[int])
	var plain []int
	for range 20000 {
		if r.Intn(2) == 0 {
			n := r.Intn(50)
			h.Push(n)
			plain = append(plain, n)
			slices.Sort(plain)
			continue
		}
		first, some := h.First()
		got, ok := h.Pop()
		if some != (len(plain) > 0) || ok != some || first != got {
			t.Fatalf("of %d things: First %d, %v, Pop %d, %v", len(plain), first, some, got, ok)
		}
		if !ok {
			continue
		}
		if got != plain[0] {
			t.Fatalf("%d came first, want %d", got, plain[0])
		}
		plain = plain[1:]
	}
}

func TestHeapIsEmptyAtFirstAndAtLast(t *testing.T) {
	h := heap.New(cmp.Less[string])
	for range 3 {
		for range 2 {
			if thing, ok := h.First(); ok || thing != "" {
				t.Errorf("First of an empty heap: %q, %v", thing, ok)
			}
			if thing, ok := h.Pop(); ok || thing != "" {
				t.Errorf("Pop of an empty heap: %q, %v", thing, ok)
			}
		}
		h.Push("a")
		if got := popAll(h); !slices.Equal(got, []string{"a"}) {
			t.Errorf("the thing came out as %v", got)
		}
	}
}

type word struct {
	text string
	rank int
}

func (w word) before(other word) bool { return w.rank < other.rank }

func TestHeapOfAnyKindInAnyOrder(t *testing.T) {
	h := heap.New(word.before)
	for i, text := range strings.Fields("never waits exactly that") {
		h.Push(word{text, 9 - i})
	}
	var texts []string
	for _, w := range popAll(h) {
		texts = append(texts, w.text)
	}
	if got := strings.Join(texts, " "); got != "that exactly waits never" {
		t.Errorf("the words came out as %q", got)
	}
}
