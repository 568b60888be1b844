package perm_test

import (
	"math"
	"slices"
	"testing"

	"wayleave/perm"
)

// P16.1: the first primes, written out, and no other number from far below 0 on.
func TestFirstPrimes(t *testing.T) {
	var got []int
	for n := -300; n < 100; n++ {
		if perm.Prime(n) {
			got = append(got, n)
		}
	}
	want := []int{2, 3, 5, 7, 11, 13, 17, 19, 23, 29, 31, 37, 41, 43, 47, 53, 59, 61, 67, 71, 73, 79, 83, 89, 97}
	if !slices.Equal(got, want) {
		t.Error(got)
	}
}

// P16.1: 0, 1, 2, 3 and 4.
func TestLeast(t *testing.T) {
	for n, want := range []bool{false, false, true, true, false} {
		if perm.Prime(n) != want {
			t.Error(n, !want)
		}
	}
}

// P16.1: each number to some hundreds, by trial of all that are less.
func TestByTrial(t *testing.T) {
	for n := range 700 {
		want := n > 1
		for d := 2; d < n; d++ {
			want = want && n%d != 0
		}
		if perm.Prime(n) != want {
			t.Error(n, !want)
		}
	}
}

// P16.1: each number beyond the greatest size.
func TestBySieve(t *testing.T) {
	for n, want := range sieve(300000) {
		if perm.Prime(n) != want {
			t.Fatal(n, !want)
		}
	}
}

// P16.1: no negative number is one, be it as great as a prime.
func TestNegative(t *testing.T) {
	for n := range 70000 {
		if perm.Prime(-n) {
			t.Fatal(-n)
		}
	}
	for _, n := range []int{-65537, -2147483647, -2147483648, -4294967291, -2305843009213693951, -math.MaxInt, math.MinInt, math.MinInt + 1, math.MinInt + 2, math.MinInt + 3} {
		if perm.Prime(n) {
			t.Error(n)
		}
	}
}

// P16.1: the square of a prime, and the product of two that are next to each other or next but one, is none.
func TestSquares(t *testing.T) {
	l := toldPrimes(66000)
	for i, p := range l {
		for j := range min(3, len(l)-i) {
			if perm.Prime(p * l[i+j]) {
				t.Fatal(p, l[i+j])
			}
		}
	}
}

// P16.1: the numbers beside the square of a prime, of which primes are by trial of each less.
func TestBesideSquares(t *testing.T) {
	is := sieve(1100000)
	for _, p := range toldPrimes(1040) {
		for by := -3; by <= 3; by++ {
			n := p*p + by
			if perm.Prime(n) != is[n] {
				t.Fatal(n, !is[n])
			}
		}
	}
}

// P16.1: squares, and products of two that are near to each other, of greater primes.
func TestGreatProducts(t *testing.T) {
	for _, x := range [][2]int{
		{65521, 65521}, {65521, 65537}, {65537, 65537}, {65537, 65539}, {2, 65537}, {3, 65537}, {2, 2147483647}, {3, 2147483647},
		{1048573, 1048573}, {1048573, 1048583}, {1048583, 1048583},
		{16777213, 16777213}, {16777213, 16777259}, {16777259, 16777259},
		{67108859, 67108859}, {67108859, 67108879}, {67108879, 67108879}, {2, 4611686018427387847},
	} {
		if perm.Prime(x[0] * x[1]) {
			t.Error(x)
		}
	}
}

// P16.1: great primes, and that no number between those that are next to each other is one.
func TestGreatPrimes(t *testing.T) {
	for _, x := range [][2]int{
		{65521, 65537}, {2147483647, 2147483659}, {4294967291, 4294967311}, {8589934583, 8589934609},
		{1099511627689, 1099511627791}, {281474976710597, 281474976710677},
		{9007199254740881, 9007199254740997}, {18014398509481951, 18014398509482143},
	} {
		for n := x[0] - 1; n <= x[1]+1; n++ {
			if want := n == x[0] || n == x[1]; perm.Prime(n) != want {
				t.Error(n, !want)
			}
		}
	}
}

// P16.1: numbers that other ways than trial take for primes, and such of which floats tell no root.
func TestLikePrimes(t *testing.T) {
	for _, n := range []int{
		341, 561, 645, 1105, 1729, 2047, 2465, 6601, 8911, 1373653, 25326001, 3215031751, 2152302898747, 3474749660383, 341550071728321, 3825123056546413051,
		9007199254740991, 9007199254740993, 1152921504606846975, math.MaxInt, math.MaxInt - 1, math.MaxInt - 2, math.MaxInt - 3, math.MaxInt - 4,
	} {
		if perm.Prime(n) {
			t.Error(n)
		}
	}
}

// P16.1: at the greatest int: the greatest prime below it, the greatest square of one, and the products of primes beside.
func TestGreatest(t *testing.T) {
	for _, x := range []struct {
		n    int
		want bool
	}{
		{9223372036854775783, true}, {3037000493 * 3037000493, false}, {3037000453 * 3037000493, false},
		{9223372036854775781, false}, {9223372036854775782, false}, {9223372036854775784, false}, {3037000499 * 3037000499, false}, {2305843009213693951, true},
	} {
		t.Run("", func(t *testing.T) {
			t.Parallel()
			if perm.Prime(x.n) != x.want {
				t.Error(x.n, !x.want)
			}
		})
	}
}
