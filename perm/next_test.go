package perm_test

import (
	"math"
	"testing"

	"wayleave/api"
	"wayleave/perm"
)

// P16.1: the chapter's examples, and each edge: the least numbers, primes themselves, those behind a prime, and the greatest size.
func TestNext(t *testing.T) {
	for _, x := range [][2]int{
		{8, 11}, {65536, 65537}, {65538, 0},
		{math.MinInt, 2}, {math.MinInt + 1, 2}, {-65537, 2}, {-65538, 2}, {-3, 2}, {-2, 2}, {-1, 2}, {0, 2}, {1, 2}, {2, 2},
		{3, 3}, {4, 5}, {5, 5}, {6, 7}, {7, 7}, {9, 11}, {10, 11}, {11, 11}, {12, 13}, {90, 97}, {97, 97}, {98, 101}, {114, 127},
		{31398, 31469}, {31397, 31397}, {65519, 65519}, {65520, 65521}, {65521, 65521}, {65522, 65537}, {65523, 65537}, {65535, 65537}, {65537, 65537},
		{65539, 0}, {65540, 0}, {131072, 0}, {1<<31 - 1, 0}, {1 << 31, 0}, {1 << 32, 0}, {1<<32 + 2, 0}, {1 << 40, 0}, {1<<63 - 25, 0}, {math.MaxInt - 1, 0}, {math.MaxInt, 0},
	} {
		if n := perm.Next(x[0]); n != x[1] {
			t.Error(x, n)
		}
	}
}

// P16.1: of each number to the greatest size, and behind it, the least prime that isn't less.
func TestEachNext(t *testing.T) {
	is, want := sieve(70000), 0
	for n := len(is) - 1; n > -100; n-- {
		if n >= 0 && n <= api.MaxTable && is[n] {
			want = n
		}
		if got := perm.Next(n); got != want {
			t.Fatal(n, got, want)
		}
	}
}

// P16.1: the number behind each prime has the next prime, and each prime has itself.
func TestBehindPrimes(t *testing.T) {
	l := toldPrimes(api.MaxTable + 1)
	for i, p := range l {
		if n := perm.Next(p); n != p {
			t.Fatal(p, n)
		}
		if i > 0 && perm.Next(l[i-1]+1) != p {
			t.Fatal(l[i-1], perm.Next(l[i-1]+1), p)
		}
	}
	if n := perm.Next(l[len(l)-1] + 1); n != 0 {
		t.Error(n)
	}
}

// P16.1: what Next answers is a size, or 0.
func TestNextFits(t *testing.T) {
	c := chance(16)
	for range 20000 {
		n := int(c.next()) >> c.below(64)
		p := perm.Next(n)
		if n > api.MaxTable && p != 0 || n <= api.MaxTable && (p < n || p < 2 || p > api.MaxTable || !perm.Prime(p)) {
			t.Fatal(n, p)
		}
	}
}
