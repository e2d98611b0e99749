package weave

import (
	"slices"
	"testing"

	"weave/api"
	"weave/field"
)

func TestShelfTablesArePowers(t *testing.T) {
	for log := range api.MaxLog + 1 {
		size := 1 << log
		table := newShelf().borrow(size)
		if len(table) != size {
			t.Fatalf("a table of the size %d has %d powers", size, len(table))
		}
		for i, power := range table {
			if power != field.Pow(field.Root(size), uint64(i)) {
				t.Fatalf("of the size %d, the power %d is wrong", size, i)
			}
		}
	}
}

func TestShelfLendsATableOnce(t *testing.T) {
	s := newShelf()
	first := s.borrow(8)
	s.giveBack(first)
	if again := s.borrow(8); &again[0] != &first[0] {
		t.Error("a table that was given back was made anew")
	}
	if other := s.borrow(8); &other[0] == &first[0] {
		t.Error("a table was lent twice at a time")
	}
}

func TestTransformGivesItsTableBack(t *testing.T) {
	s := newShelf()
	for log := range api.MaxLog + 1 {
		size := 1 << log
		for _, inverse := range []bool{false, true} {
			s.transform(make([]uint64, size), inverse)
			if len(s.tables) != log+1 || !slices.Equal(s.tables[size], powers(size)) {
				t.Errorf("the table of the size %d was not given back as it was", size)
			}
		}
	}
}

// TestTransformGivesItsTableBackInAPanic: a way out too. No call gets there: a size that is
// none is refused ahead.
func TestTransformGivesItsTableBackInAPanic(t *testing.T) {
	s := newShelf()
	s.giveBack(make([]uint64, 3))
	defer func() {
		if recover() == nil {
			t.Error("a list of 3 elements went through")
		}
		if len(s.tables[3]) != 3 {
			t.Error("the table was not given back")
		}
	}()
	s.transform([]uint64{1, 2, 3}, false)
}

func TestConvolveSharesOneTable(t *testing.T) {
	s := newShelf()
	s.convolve([]int{1, 2, 3}, []int{0, 1, -1})
	if len(s.tables) != 1 || len(s.tables[8]) != 8 {
		t.Errorf("%d tables are left", len(s.tables))
	}
}
