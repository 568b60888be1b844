package weight_test

import (
	"bytes"
	"math"
	"testing"

	"wayleave/weight"
)

// P14.3: the bytes of known numbers, there and back.
func TestBytes(t *testing.T) {
	for _, x := range []struct {
		f    float64
		want string
	}{
		{0, "00 00 00 00 00 00 00 00"}, {minus(), "80 00 00 00 00 00 00 00"},
		{1, "3f f0 00 00 00 00 00 00"}, {-1, "bf f0 00 00 00 00 00 00"}, {1.5, "3f f8 00 00 00 00 00 00"}, {-2, "c0 00 00 00 00 00 00 00"},
		{1000, "40 8f 40 00 00 00 00 00"}, {0.1, "3f b9 99 99 99 99 99 9a"}, {1.0 / 3, "3f d5 55 55 55 55 55 55"}, {0.0009765625, "3f 50 00 00 00 00 00 00"},
		{math.Pi, "40 09 21 fb 54 44 2d 18"}, {5e-324, "00 00 00 00 00 00 00 01"}, {-5e-324, "80 00 00 00 00 00 00 01"},
		{2.225073858507201e-308, "00 0f ff ff ff ff ff ff"}, {2.2250738585072014e-308, "00 10 00 00 00 00 00 00"},
		{math.MaxFloat64, "7f ef ff ff ff ff ff ff"}, {-math.MaxFloat64, "ff ef ff ff ff ff ff ff"},
		{math.Inf(1), "7f f0 00 00 00 00 00 00"}, {math.Inf(-1), "ff f0 00 00 00 00 00 00"},
		{math.NaN(), "7f f8 00 00 00 00 00 00"}, {-math.NaN(), "7f f8 00 00 00 00 00 00"}, {of(0xfff0000000000007), "7f f8 00 00 00 00 00 00"},
		{of(0x0102030405060708), "01 02 03 04 05 06 07 08"}, {of(0xf1e2d3c4b5a69788), "f1 e2 d3 c4 b5 a6 97 88"},
	} {
		want := known(x.want)
		if b := weight.Put(x.f); !bytes.Equal(b, want) {
			t.Errorf("%v: % x, not % x", x.f, b, want)
		}
		f, ok := weight.Get(want)
		if !ok || f != x.f && (f == f || x.f == x.f) || math.Signbit(f) != (want[0] > 127) {
			t.Errorf("% x: %v %v, not %v", want, f, ok, x.f)
		}
	}
}

// checkGet holds what is got of eight bytes against the words.
func checkGet(t *testing.T, n uint64) {
	t.Helper()
	f, ok := weight.Get(eight(n))
	want, right := n, true
	if isNaN(n) && n != none {
		want, right = 0, false
	}
	if ok != right || toldBits(math.Float64bits(f)) != want {
		t.Fatalf("%x: %v %v, not %v", n, f, ok, of(want))
	}
}

// P14.3: the bytes of many numbers, and what is got of them, against the words.
func TestBytesByWords(t *testing.T) {
	for _, n := range many() {
		if b := weight.Put(of(n)); !bytes.Equal(b, eight(toldBits(n))) {
			t.Fatalf("%x: % x", n, b)
		}
		checkGet(t, n)
	}
}

// P14.3: each of the 64 bits counts, at its place.
func TestEachBit(t *testing.T) {
	for _, n := range many()[:6000] {
		was := weight.Put(of(n))
		for i := range 64 {
			m := n ^ 1<<i
			checkGet(t, m)
			b := weight.Put(of(m))
			if !bytes.Equal(b, eight(toldBits(m))) {
				t.Fatalf("%x: % x", m, b)
			}
			if both := isNaN(n) && isNaN(m); bytes.Equal(b, was) != both {
				t.Fatalf("%x and %x: % x and % x", n, m, was, b)
			}
		}
	}
}

// P14.3: each NaN is put alike, and no other bytes are one's.
func TestBytesOfNaN(t *testing.T) {
	want := known("7f f8 00 00 00 00 00 00")
	for _, n := range nans() {
		if b := weight.Put(of(n)); !bytes.Equal(b, want) {
			t.Fatalf("%x: % x", n, b)
		}
		f, ok := weight.Get(eight(n))
		switch {
		case n == none && (!ok || f == f):
			t.Fatalf("%x: %v %v", n, f, ok)
		case n != none && (ok || math.Float64bits(f) != 0):
			t.Fatalf("%x: %v %v", n, f, ok)
		}
	}
}

// P14.3: bytes of another length are none's, whatever they are.
func TestGetLengths(t *testing.T) {
	for _, x := range []string{"00 00 00 00 00 00 00 00", "3f f8 00 00 00 00 00 00", "7f f8 00 00 00 00 00 00", "01 02 03 04 05 06 07 08"} {
		long := bytes.Repeat(known(x), 40)
		for size := range len(long) + 1 {
			f, ok := weight.Get(long[:size])
			if ok != (size == 8) || !ok && math.Float64bits(f) != 0 {
				t.Fatalf("%s, %d bytes: %v %v", x, size, f, ok)
			}
			// The room behind the length doesn't count.
			if g, is := weight.Get(bytes.Clone(long[:size])); is != ok || !weight.Same(f, g) {
				t.Fatalf("%s, %d bytes alone: %v %v", x, size, g, is)
			}
		}
	}
	if f, ok := weight.Get(nil); ok || math.Float64bits(f) != 0 {
		t.Errorf("nil: %v %v", f, ok)
	}
}

// P14.4: what is put is got as it was; what is got is put to the same bytes.
func TestBack(t *testing.T) {
	for _, n := range many() {
		f := of(n)
		b := weight.Put(f)
		g, ok := weight.Get(b)
		if !ok || !weight.Same(f, g) || !isNaN(n) && math.Float64bits(g) != n {
			t.Fatalf("%x: % x, %v %v", n, b, g, ok)
		}
		if g, ok := weight.Get(eight(n)); ok && !bytes.Equal(weight.Put(g), eight(n)) {
			t.Fatalf("%x: % x", n, weight.Put(g))
		}
	}
}

// P14.4: each number of quanta, as a weight, there and back.
func TestBackQuanta(t *testing.T) {
	for q := range most + 1 {
		f, ok := weight.Get(weight.Put(weight.Of(q)))
		if n, is := weight.Quanta(f); !ok || !is || n != q {
			t.Fatalf("%d: %v %v, %d %v", q, f, ok, n, is)
		}
	}
}

// P14.3: numbers that are known to be the same, or not.
func TestSame(t *testing.T) {
	for _, x := range []struct {
		a, b float64
		want bool
	}{
		{0, 0, true}, {minus(), minus(), true}, {0, minus(), false},
		{1, 1, true}, {1, 2, false}, {1, -1, false}, {-1, -1, true}, {1, math.Nextafter(1, 2), false}, {1000, math.Nextafter(1000, 0), false},
		{0, 5e-324, false}, {minus(), -5e-324, false}, {5e-324, -5e-324, false},
		{math.Inf(1), math.Inf(1), true}, {math.Inf(-1), math.Inf(-1), true}, {math.Inf(1), math.Inf(-1), false}, {math.Inf(1), math.MaxFloat64, false},
		{math.NaN(), math.NaN(), true}, {math.NaN(), of(none), true}, {of(none), of(none | signBit), true}, {of(exponent | 1), of(signBit | exponent | behind), true},
		{math.NaN(), 0, false}, {math.NaN(), minus(), false}, {math.NaN(), 1, false}, {math.NaN(), math.Inf(1), false}, {of(none | signBit), math.Inf(-1), false},
	} {
		if weight.Same(x.a, x.b) != x.want || weight.Same(x.b, x.a) != x.want {
			t.Errorf("%v and %v: not %v", x.a, x.b, x.want)
		}
	}
}

// P14.3: all NaN are the same, and none is a number.
func TestSameNaN(t *testing.T) {
	for _, n := range nans() {
		for _, m := range nans() {
			if !weight.Same(of(n), of(m)) {
				t.Fatalf("%x and %x", n, m)
			}
		}
		for _, m := range edges() {
			if weight.Same(of(n), of(m)) != isNaN(m) || weight.Same(of(m), of(n)) != isNaN(m) {
				t.Fatalf("%x and %x", n, m)
			}
		}
	}
}

// P14.3: numbers one bit apart aren't the same, but for two NaN.
func TestSameBits(t *testing.T) {
	for _, n := range many() {
		if !weight.Same(of(n), of(n)) {
			t.Fatalf("%x", n)
		}
		for i := range 64 {
			m := n ^ 1<<i
			if weight.Same(of(n), of(m)) != (isNaN(n) && isNaN(m)) {
				t.Fatalf("%x and %x", n, m)
			}
		}
	}
}

// P14.3: by chance any two of many numbers.
func TestSameByWords(t *testing.T) {
	c := chance(143)
	all := many()
	for range 200000 {
		n, m := all[c.next()%uint64(len(all))], all[c.next()%uint64(len(all))]
		if weight.Same(of(n), of(m)) != (toldBits(n) == toldBits(m)) {
			t.Fatalf("%x and %x", n, m)
		}
	}
}

// P14.5: bytes that are handed in stay, with the room behind their length, and aren't kept.
func TestGetStays(t *testing.T) {
	for _, n := range append(nans(), edges()[:200]...) {
		room := append(eight(n), 1, 2, 3, 4, 5, 6, 7, 8)
		was := bytes.Clone(room)
		for size := range len(room) + 1 {
			weight.Get(room[:size])
			if !bytes.Equal(room, was) {
				t.Fatalf("%x, %d bytes: % x", n, size, room)
			}
		}
		f, ok := weight.Get(room[:8])
		clear(room)
		if g, is := weight.Get(was[:8]); is != ok || !weight.Same(f, g) {
			t.Fatalf("%x: %v %v, then %v %v", n, f, ok, g, is)
		}
	}
}

// P14.5: the bytes of each answer are new.
func TestPutNew(t *testing.T) {
	for _, n := range append(nans(), edges()[:200]...) {
		f := of(n)
		one, two := weight.Put(f), weight.Put(f)
		want := eight(toldBits(n))
		// Neither the bytes nor the room behind them may be another answer's.
		one = one[:cap(one)]
		for i := range one {
			one[i] ^= 255
		}
		if !bytes.Equal(two, want) || !bytes.Equal(weight.Put(f), want) {
			t.Fatalf("%x: % x", n, two)
		}
	}
}

// P1: any bytes are read, and are some number's, or none's.
func TestAnyBytes(t *testing.T) {
	c := chance(1)
	for range 200000 {
		b := make([]byte, c.next()%17)
		for i := range b {
			b[i] = byte(c.next())
		}
		// Some are near to a NaN's or to an infinity's.
		if len(b) > 1 && c.next()%4 == 0 {
			b[0], b[1] = b[0]|0x7f, b[1]|0xf0
		}
		f, ok := weight.Get(b)
		if ok && !bytes.Equal(weight.Put(f), b) || !ok && math.Float64bits(f) != 0 {
			t.Fatalf("% x: %v %v", b, f, ok)
		}
		if len(b) == 8 {
			n := uint64(0)
			for _, x := range b {
				n = n*256 + uint64(x)
			}
			if ok == (isNaN(n) && n != none) {
				t.Fatalf("% x: %v", b, ok)
			}
		} else if ok {
			t.Fatalf("% x: %v", b, f)
		}
	}
}
