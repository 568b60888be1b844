package perm_test

import (
	"math"
	"math/big"
	"testing"

	"wayleave/perm"
)

// toldChoice is the i-th choice by the chapter's words, in numbers without an end.
func toldChoice(offset, skip, size, i int) int {
	n := new(big.Int).Mul(big.NewInt(int64(i)), big.NewInt(int64(skip)))
	n.Add(n, big.NewInt(int64(offset)))
	return int(n.Mod(n, big.NewInt(int64(size))).Int64())
}

// P16.2: choices that are written out.
func TestKnownChoices(t *testing.T) {
	for _, x := range []struct{ offset, skip, size, i, want int }{
		{0, 1, 2, 0, 0}, {0, 1, 2, 1, 1}, {0, 1, 2, 2, 0}, {1, 1, 2, 0, 1}, {1, 1, 2, 1, 0}, {1, 1, 2, 2, 1}, {0, 1, 2, 1 << 31, 0}, {1, 1, 2, 1 << 31, 1}, {0, 1, 2, 1<<31 - 1, 1},
		{0, 1, 3, 2, 2}, {0, 2, 3, 1, 2}, {0, 2, 3, 2, 1}, {2, 2, 3, 1, 1}, {2, 2, 3, 3, 2}, {2, 2, 3, 1 << 31, 0}, {0, 1, 3, 1 << 31, 2},
		{3, 4, 7, 0, 3}, {3, 4, 7, 1, 0}, {3, 4, 7, 2, 4}, {3, 4, 7, 6, 6}, {3, 4, 7, 7, 3}, {3, 4, 7, 8, 0},
		{0, 1, 65537, 0, 0}, {0, 1, 65537, 65536, 65536}, {0, 1, 65537, 65537, 0}, {0, 1, 65537, 1 << 31, 32769}, {0, 65536, 65537, 1, 65536}, {0, 65536, 65537, 2, 65535}, {0, 65536, 65537, 1 << 31, 32768},
		{65536, 65536, 65537, 0, 65536}, {65536, 65536, 65537, 1, 65535}, {65536, 65536, 65537, 65536, 0}, {65536, 65536, 65537, 65537, 65536}, {65536, 65536, 65537, 1 << 31, 32767}, {65536, 1, 65537, 1, 0}, {65536, 1, 65537, 1 << 31, 32768},
	} {
		if n := perm.Choice(x.offset, x.skip, x.size, x.i); n != x.want {
			t.Error(x, n)
		}
	}
}

// P16.2: of each size the least and the greatest offset and skip, at the least, the greatest and the other edges of i.
func TestChoiceEdges(t *testing.T) {
	for _, size := range sizes() {
		for _, offset := range []int{0, 1, size / 2, size - 2, size - 1} {
			for _, skip := range []int{1, max(size/2, 1), max(size-2, 1), size - 1} {
				for _, i := range []int{0, 1, 2, size - 2, size - 1, size, size + 1, 2*size - 1, 2 * size, 65535, 65536, 65537, 1<<16 + 1, 1<<30 - 1, 1 << 30, 1<<31 - 65537, 1<<31 - 2, 1<<31 - 1, 1 << 31} {
					if n, want := perm.Choice(offset, skip, size, i), toldChoice(offset, skip, size, i); n != want {
						t.Error(offset, skip, size, i, n, want)
					}
				}
			}
		}
	}
}

// P16.2: of the least sizes each offset, skip and i.
func TestEachChoice(t *testing.T) {
	for _, size := range []int{2, 3, 5, 7, 11} {
		for offset := range size {
			for skip := 1; skip < size; skip++ {
				at := offset
				for i := range 3*size + 2 {
					if n := perm.Choice(offset, skip, size, i); n != at {
						t.Fatal(offset, skip, size, i, n, at)
					}
					if at += skip; at >= size {
						at -= size
					}
				}
			}
		}
	}
}

// P16.2, P1: any preference of any size, at any i.
func TestAnyChoice(t *testing.T) {
	c, l := chance(164), toldPrimes(65538)
	for range 100000 {
		size := l[c.below(len(l))]
		offset, skip, i := c.below(size), 1+c.below(size-1), c.below(1<<31+1)>>c.below(32)
		if n, want := perm.Choice(offset, skip, size, i), toldChoice(offset, skip, size, i); n != want {
			t.Fatal(offset, skip, size, i, n, want)
		}
	}
}

// P1: numbers that are no sizes, and such that no preference has, end as well.
func TestNoSizes(t *testing.T) {
	for _, size := range []int{0, 1, -1, -2, -65537, 4, 6, 65536, 65538, 1 << 31, 1 << 62, math.MaxInt, math.MinInt} {
		for _, name := range []string{"", "web"} {
			perm.Of(upKey(), name, size)
			perm.All(upKey(), name, size)
		}
		for _, n := range []int{0, 1, -1, size, math.MaxInt, math.MinInt} {
			perm.Choice(n, n, size, n)
			perm.Choice(n, 1, 2, n)
		}
	}
}
