package weight_test

import (
	"math"
	"slices"
	"testing"

	"wayleave/weight"
)

// P14.1: the quanta of known numbers, and which of them are right.
func TestQuanta(t *testing.T) {
	down, up := math.Inf(-1), math.Inf(1)
	for _, x := range []struct {
		f    float64
		want int
		ok   bool
	}{
		// The chapter's examples.
		{1.5, 1536, true}, {0.0009765625, 1, true}, {minus(), 0, true},
		// The noughts, and what is nearest to them.
		{0, 0, true}, {5e-324, 0, true}, {-5e-324, 0, false},
		{2.225073858507201e-308, 0, true}, {-2.225073858507201e-308, 0, false},
		{2.2250738585072014e-308, 0, true}, {-2.2250738585072014e-308, 0, false},
		// Whole numbers and parts of them.
		{1, 1024, true}, {2, 2048, true}, {0.5, 512, true}, {0.25, 256, true}, {1.0 / 3, 341, true}, {2.0 / 3, 682, true}, {999, 1022976, true},
		{0.1, 102, true}, {0.7, 716, true}, {math.Pi, 3216, true},
		{math.Nextafter(1, down), 1023, true}, {math.Nextafter(1, up), 1024, true},
		{math.Nextafter(0.0009765625, down), 0, true}, {math.Nextafter(0.0009765625, up), 1, true}, {0.00048828125, 0, true}, {0.00146484375, 1, true},
		// The greatest weight.
		{1000, 1024000, true}, {math.Nextafter(1000, down), 1023999, true}, {math.Nextafter(1000, up), 0, false},
		{1000.0009765625, 0, false}, {999.9990234375, 1023999, true}, {1001, 0, false}, {1024, 0, false},
		// Below 0.
		{-1e-300, 0, false}, {-0.0009765625, 0, false}, {-0.5, 0, false}, {-1, 0, false}, {-1.5, 0, false}, {-1000, 0, false}, {-1001, 0, false}, {-1e19, 0, false}, {-1e300, 0, false}, {-math.MaxFloat64, 0, false},
		// Very great, and no numbers.
		{1e9, 0, false}, {1e16, 0, false}, {1e18, 0, false}, {1e19, 0, false}, {1e300, 0, false}, {math.MaxFloat64, 0, false},
		{up, 0, false}, {down, 0, false}, {math.NaN(), 0, false}, {of(none), 0, false}, {of(none | signBit), 0, false},
	} {
		if n, ok := weight.Quanta(x.f); n != x.want || ok != x.ok {
			t.Errorf("%v: %d %v, not %d %v", x.f, n, ok, x.want, x.ok)
		}
		if weight.Right(x.f) != x.ok {
			t.Errorf("%v: not %v", x.f, x.ok)
		}
	}
}

// P14.1: numbers of many bits and of each edge, of both signs, infinities and NaN, against the words.
func TestQuantaByWords(t *testing.T) {
	for _, n := range many() {
		checkNumber(t, n)
	}
}

// P14.1: no NaN is right, whatever its bits.
func TestQuantaOfNaN(t *testing.T) {
	for _, n := range nans() {
		if q, ok := weight.Quanta(of(n)); q != 0 || ok || weight.Right(of(n)) {
			t.Fatalf("%x: %d %v", n, q, ok)
		}
	}
}

// P14.1, P14.2: each number of quanta as a weight, and the numbers next to it on both sides.
func TestEachQuanta(t *testing.T) {
	for q := range most + 1 {
		f := weight.Of(q)
		if n, ok := weight.Quanta(f); n != q || !ok || !weight.Right(f) {
			t.Fatalf("%d, %v: %d %v", q, f, n, ok)
		}
		if f*1024 != float64(q) || math.Signbit(f) {
			t.Fatalf("%d: %v", q, f)
		}
		below, above := math.Nextafter(f, math.Inf(-1)), math.Nextafter(f, math.Inf(1))
		checkBeside(t, below, q-1, q > 0)
		checkBeside(t, above, q, q < most)
	}
}

// checkBeside holds the quanta of a number beside a weight against those that are wanted, if it is right.
func checkBeside(t *testing.T, f float64, want int, ok bool) {
	t.Helper()
	if !ok {
		want = 0
	}
	if n, is := weight.Quanta(f); n != want || is != ok || weight.Right(f) != ok {
		t.Fatalf("%v: %d %v, not %d %v", f, n, is, want, ok)
	}
}

// P14.2: the weights of known numbers of quanta.
func TestOf(t *testing.T) {
	for _, x := range []struct {
		quanta int
		bits   uint64
	}{
		{0, 0}, {1, 0x3f50000000000000}, {2, 0x3f60000000000000}, {3, 0x3f68000000000000}, {512, 0x3fe0000000000000}, {1023, 0x3feff80000000000},
		{1024, 0x3ff0000000000000}, {1025, 0x3ff0040000000000}, {1536, 0x3ff8000000000000}, {1023999, 0x408f3ffe00000000}, {1024000, 0x408f400000000000},
	} {
		if n := math.Float64bits(weight.Of(x.quanta)); n != x.bits {
			t.Errorf("%d: %x, not %x", x.quanta, n, x.bits)
		}
	}
}

// P1: Of ends at other numbers of quanta as well.
func TestOfOthers(t *testing.T) {
	for _, q := range []int{-1, most + 1, math.MaxInt, math.MinInt} {
		if weight.Right(weight.Of(q)) {
			t.Errorf("%d: %v", q, weight.Of(q))
		}
	}
}

// P14.4: greater weights have no fewer quanta.
func TestOrder(t *testing.T) {
	var l []float64
	for _, n := range many() {
		if weight.Right(of(n)) {
			l = append(l, of(n))
		}
	}
	for q := 0; q <= most; q += 37 {
		f := weight.Of(q)
		l = append(l, f, math.Nextafter(f, 1000))
	}
	slices.Sort(l)
	last := 0
	for _, f := range l {
		n, ok := weight.Quanta(f)
		if !ok || n < last {
			t.Fatalf("%v: %d %v, behind %d", f, n, ok, last)
		}
		last = n
	}
	if last != most {
		t.Errorf("the greatest: %d", last)
	}
}

// P14.1: -0 becomes 0, all else is as it is.
func TestPlain(t *testing.T) {
	for _, n := range many() {
		want := n
		if n == signBit {
			want = 0
		}
		got := weight.Plain(of(n))
		// A NaN's bits are held only as far as Same tells them.
		if isNaN(n) {
			if !weight.Same(got, of(n)) || got == got {
				t.Fatalf("%x: %x", n, math.Float64bits(got))
			}
		} else if math.Float64bits(got) != want {
			t.Fatalf("%x: %x", n, math.Float64bits(got))
		}
	}
}

// P14.1: a weight is plain once, and its quanta are as they were.
func TestPlainAgain(t *testing.T) {
	for _, n := range many() {
		f := of(n)
		p := weight.Plain(f)
		if !weight.Same(weight.Plain(p), p) {
			t.Fatalf("%x: %v, then %v", n, p, weight.Plain(p))
		}
		q, ok := weight.Quanta(f)
		if r, is := weight.Quanta(p); r != q || is != ok {
			t.Fatalf("%x: %d %v, plain %d %v", n, q, ok, r, is)
		}
	}
}
