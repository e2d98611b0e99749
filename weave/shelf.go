package weave

import "weave/field"

// shelf holds tables of roots' powers, by their sizes, so that transforms of one size share
// one table. It lives no longer than what it was made for: nothing is kept beyond that.
type shelf struct {
	tables map[int][]uint64
}

func newShelf() *shelf {
	return &shelf{tables: map[int][]uint64{}}
}

// borrow hands a size's table out. It leaves the shelf, so that it has one holder at a time.
func (s *shelf) borrow(size int) []uint64 {
	table, ok := s.tables[size]
	if !ok {
		return powers(size)
	}
	delete(s.tables, size)
	return table
}

func (s *shelf) giveBack(table []uint64) {
	s.tables[len(table)] = table
}

// powers tells the powers of a size's root, up to where they come round.
func powers(size int) []uint64 {
	table := make([]uint64, size)
	root, power := field.Root(size), uint64(1)
	for i := range table {
		table[i] = power
		power = field.Mul(power, root)
	}
	return table
}
