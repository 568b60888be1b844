package weight_test

import (
	"math"
	"slices"
	"testing"

	"wayleave/weight"
)

// wrong are numbers that aren't right.
func wrong() []float64 {
	return []float64{-5e-324, -1, math.Nextafter(1000, 2000), 1e300, math.Inf(1), math.Inf(-1), math.NaN(), of(none), of(none | signBit), of(exponent | 1)}
}

// P14.1: the sum of known lists.
func TestTotal(t *testing.T) {
	half := math.Nextafter(1.0/1024, 0)
	for i, x := range []struct {
		l    []float64
		want int
	}{
		{nil, 0},
		{[]float64{}, 0},
		{[]float64{0}, 0},
		{[]float64{minus()}, 0},
		{[]float64{minus(), 0, minus(), 0}, 0},
		{[]float64{1.5}, 1536},
		{[]float64{1000}, 1024000},
		{[]float64{1, 0.5, minus(), 2}, 3584},
		{[]float64{0, 1, minus(), 1, 0}, 2048},
		{[]float64{1000, 1000, 1000}, 3072000},
		// Each one's whole part counts, not that of the sum.
		{[]float64{half, half, half, half}, 0},
		{[]float64{1.0 / 3, 1.0 / 3, 1.0 / 3}, 1023},
		{[]float64{5e-324, 1.0 / 1024, 2.0 / 1024}, 3},
		{slices.Repeat([]float64{1000}, 100000), 102400000000},
		{slices.Repeat([]float64{1000, minus(), 1.0 / 1024}, 10000), 10240010000},
		{slices.Repeat([]float64{half}, 5000), 0},
	} {
		if n, ok := weight.Total(x.l); n != x.want || !ok {
			t.Errorf("%d: %d %v, not %d", i, n, ok, x.want)
		}
	}
}

// P14.1: with one number that isn't right, at each place, there is no sum.
func TestTotalWrong(t *testing.T) {
	for _, f := range wrong() {
		for size := 1; size < 12; size++ {
			for at := range size {
				l := make([]float64, size)
				for i := range l {
					l[i] = float64(i) * 1.25
				}
				l[at] = f
				if n, ok := weight.Total(l); n != 0 || ok {
					t.Fatalf("%v at %d of %d: %d %v", f, at, size, n, ok)
				}
			}
		}
	}
}

// P14.1: with numbers that aren't right all over, which would come to 0 or to something right, there is none either.
func TestTotalAllWrong(t *testing.T) {
	for _, f := range wrong() {
		for _, g := range wrong() {
			if n, ok := weight.Total([]float64{f, 3, g}); n != 0 || ok {
				t.Fatalf("%v and %v: %d %v", f, g, n, ok)
			}
		}
	}
	for _, l := range [][]float64{{-1, 1}, {1, -1}, {-0.5, 2, -0.5}, {math.Inf(1), math.Inf(-1)}} {
		if n, ok := weight.Total(l); n != 0 || ok {
			t.Errorf("%v: %d %v", l, n, ok)
		}
	}
}

// P14.1: lists by chance, against the words.
func TestTotalByWords(t *testing.T) {
	c := chance(141)
	all := many()
	for range 20000 {
		var l []float64
		want, right := 0, true
		for range c.next() % 9 {
			n := all[c.next()%uint64(len(all))]
			// Most of the numbers are made right, so that some lists are so as a whole.
			if _, ok := toldQuanta(n); !ok && c.next()%16 != 0 {
				n = 0x4000000000000000 | n&behind
			}
			q, ok := toldQuanta(n)
			want, right = want+q, right && ok
			l = append(l, of(n))
		}
		if !right {
			want = 0
		}
		if n, ok := weight.Total(l); n != want || ok != right {
			t.Fatalf("%v: %d %v, not %d %v", l, n, ok, want, right)
		}
	}
}

// P14.5: a list that is handed in stays, with the room behind its length, and isn't kept.
func TestTotalStays(t *testing.T) {
	room := []float64{1.5, minus(), 1000, math.NaN(), -1, 7}
	was := make([]uint64, len(room))
	for i, f := range room {
		was[i] = math.Float64bits(f)
	}
	for size := range len(room) + 1 {
		n, ok := weight.Total(room[:size])
		for i, f := range room {
			if math.Float64bits(f) != was[i] {
				t.Fatalf("of %d: %v at %d", size, f, i)
			}
		}
		if m, is := weight.Total(slices.Clone(room[:size])); m != n || is != ok {
			t.Fatalf("of %d: %d %v, then %d %v", size, n, ok, m, is)
		}
	}
	l := []float64{1, 2}
	weight.Total(l)
	l[0] = -1
	if n, ok := weight.Total([]float64{1, 2}); n != 3072 || !ok {
		t.Errorf("again: %d %v", n, ok)
	}
}
