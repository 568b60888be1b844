package varint

import (
	"bytes"
	"math"
	"math/big"
	"slices"
	"testing"

	"wayleave/api"
)

// full is so many bytes behind each of which more follows, and behind them the tail.
func full(n int, x byte, tail ...byte) []byte {
	return append(bytes.Repeat([]byte{x}, n), tail...)
}

// laid is the varint by its words: digits got by division, of however great a number.
func laid(n *big.Int) []byte {
	base, rest, digits := big.NewInt(128), new(big.Int).Set(n), []byte{}
	for len(digits) == 0 || rest.Sign() > 0 {
		d := new(big.Int)
		rest.DivMod(rest, base, d)
		digits = append(digits, byte(d.Uint64()))
	}
	for i := range len(digits) - 1 {
		digits[i] += 128
	}
	return digits
}

// varintOf is the number whose varint b is, and whether there is one.
func varintOf(b []byte) (uint64, bool) {
	n := new(big.Int)
	for _, x := range slices.Backward(b) {
		n.Lsh(n, 7)
		n.Add(n, big.NewInt(int64(x%128)))
	}
	return n.Uint64(), n.IsUint64() && bytes.Equal(laid(n), b)
}

// told is what Get is to answer, by the words alone.
func told(b []byte) (uint64, int, api.Errno) {
	for k := range b {
		if n, is := varintOf(b[:k+1]); is {
			return n, k + 1, api.OK
		}
	}
	// If any varint begins with b, then that which ends at once behind it does.
	if _, is := varintOf(append(slices.Clone(b), 1)); is || len(b) == 0 {
		return 0, 0, api.ErrEnd
	}
	return 0, 0, api.ErrForm
}

// numbers are such as have an edge somewhere, rising: each power of 2 and its neighbours are among them.
func numbers() []uint64 {
	l := []uint64{300, 12345, 0xdeadbeef, 0x0102030405060708, 0xcafef00ddeadbeef, math.MaxUint64, math.MaxUint64 - 1}
	for i := range 64 {
		l = append(l, 1<<i-1, 1<<i, 1<<i+1, 3<<i)
	}
	slices.Sort(l)
	return slices.Compact(l)
}

// wholes are whole numbers at edges.
func wholes() []int64 {
	l := []int64{math.MinInt64, math.MinInt64 + 1, math.MaxInt64, math.MaxInt64 - 1}
	for _, n := range numbers() {
		if n <= math.MaxInt64 {
			l = append(l, int64(n), -int64(n))
		}
	}
	slices.Sort(l)
	return slices.Compact(l)
}

// P2.1: the varints of some numbers, with those at which a byte is added.
func TestPut(t *testing.T) {
	for _, x := range []struct {
		n    uint64
		want []byte
	}{
		{0, []byte{0}},
		{1, []byte{1}},
		{127, []byte{127}},
		{128, []byte{128, 1}},
		{129, []byte{129, 1}},
		{255, []byte{255, 1}},
		{256, []byte{128, 2}},
		{300, []byte{172, 2}},
		{16383, []byte{255, 127}},
		{16384, []byte{128, 128, 1}},
		{2097151, []byte{255, 255, 127}},
		{2097152, []byte{128, 128, 128, 1}},
		{math.MaxUint32, []byte{255, 255, 255, 255, 15}},
		{1<<63 - 1, full(8, 255, 127)},
		{1 << 63, full(9, 128, 1)},
		{math.MaxUint64, full(9, 255, 1)},
	} {
		if b := Put(x.n); !bytes.Equal(b, x.want) {
			t.Errorf("Put(%d): %v, not %v", x.n, b, x.want)
		}
	}
}

// P2.1: digits in base 128, the lowest one first, 128 added to all but the last one.
func TestPutByDivision(t *testing.T) {
	for _, n := range numbers() {
		if b, want := Put(n), laid(new(big.Int).SetUint64(n)); !bytes.Equal(b, want) {
			t.Errorf("Put(%d): %v, not %v", n, b, want)
		}
	}
}

// P2.1: how many bytes a varint has.
func TestSize(t *testing.T) {
	for k := 1; k < 10; k++ {
		n := uint64(1) << (7 * k)
		if Size(n-1) != k || Size(n) != k+1 {
			t.Errorf("%d: %d bytes; one less: %d, not %d", n, Size(n), Size(n-1), k)
		}
	}
	for _, x := range []struct {
		n    uint64
		want int
	}{{0, 1}, {1, 1}, {300, 2}, {math.MaxInt64, 9}, {1 << 63, 10}, {math.MaxUint64, 10}} {
		if k := Size(x.n); k != x.want {
			t.Errorf("Size(%d): %d, not %d", x.n, k, x.want)
		}
	}
	for _, n := range numbers() {
		if k, want := Size(n), len(Put(n)); k != want {
			t.Errorf("Size(%d): %d, not %d", n, k, want)
		}
	}
}

// P2.1: what is put is got, whatever stands behind it.
func TestPutIsGot(t *testing.T) {
	tails := [][]byte{nil, {0}, {1}, {127}, {128}, {200}, {255}, {128, 0}, full(12, 255), full(12, 128, 0)}
	for _, n := range numbers() {
		for _, tail := range tails {
			b := append(Put(n), tail...)
			if got, k, e := Get(b); got != n || k != Size(n) || e != api.OK {
				t.Errorf("%d, behind it %v: %d, %d, %d", n, tail, got, k, e)
			}
		}
	}
}

// P2.1: without bytes, and with the beginning of a varint, bytes are lacking.
func TestGetOfBeginnings(t *testing.T) {
	beginnings := [][]byte{nil, {}, {128}, {200}, {255}, {128, 128}, {172, 255}, full(9, 255), full(9, 128)}
	for _, n := range numbers() {
		b := Put(n)
		for k := range b {
			beginnings = append(beginnings, b[:k])
		}
	}
	for _, b := range beginnings {
		if n, k, e := Get(b); n != 0 || k != 0 || e != api.ErrEnd {
			t.Errorf("Get(%v): %d, %d, %d", b, n, k, e)
		}
	}
}

// P2.1: bytes with which no varint begins, whatever stands behind them: noughts at the highest end, more than 2^64 - 1, more than ten bytes.
func TestGetOfNoVarint(t *testing.T) {
	wrong := [][]byte{
		{128, 0}, {255, 0}, {129, 0}, {172, 0}, {128, 128, 0}, {255, 128, 0}, {172, 130, 0},
		full(9, 128, 0), full(9, 255, 0),
		full(9, 255, 2), full(9, 128, 2), full(9, 128, 3), full(9, 255, 127),
		full(9, 255, 128), full(9, 255, 129), full(9, 128, 129), full(9, 255, 255),
		full(10, 128), full(10, 255), full(10, 128, 0), full(10, 128, 1), full(10, 255, 1), full(11, 255), full(100, 128, 1), full(100, 255),
	}
	for k := 1; k < 10; k++ {
		wrong = append(wrong, full(k, 128, 0), full(k, 255, 0))
	}
	for _, b := range wrong {
		for _, tail := range [][]byte{nil, {0}, {1}, {200}, {128, 1}, full(12, 255)} {
			if n, k, e := Get(append(slices.Clone(b), tail...)); n != 0 || k != 0 || e != api.ErrForm {
				t.Errorf("Get(%v and %v): %d, %d, %d", b, tail, n, k, e)
			}
		}
	}
}

// P2.1: the greatest number has ten bytes; ten bytes tell no greater one, and more than ten no number.
func TestGetOfTenBytes(t *testing.T) {
	for x := range 256 {
		for _, head := range []byte{128, 172, 255} {
			b := full(9, head, byte(x))
			n, k, e := Get(b)
			if x == 1 && (n < 1<<63 || k != 10 || e != api.OK) || x != 1 && (n != 0 || k != 0 || e != api.ErrForm) {
				t.Errorf("Get(%v): %d, %d, %d", b, n, k, e)
			}
		}
	}
	if n, k, e := Get(full(9, 255, 1)); n != math.MaxUint64 || k != 10 || e != api.OK {
		t.Errorf("the greatest: %d, %d, %d", n, k, e)
	}
	if n, k, e := Get(full(9, 128, 1)); n != 1<<63 || k != 10 || e != api.OK {
		t.Errorf("2^63: %d, %d, %d", n, k, e)
	}
}

// P2.1: all texts of up to two bytes, and such as have bytes of edges behind bytes that let more follow, are told as the words say.
func TestGetByWords(t *testing.T) {
	check := func(b []byte) {
		n, k, e := Get(b)
		if n2, k2, e2 := told(b); n != n2 || k != k2 || e != e2 {
			t.Errorf("Get(%v): %d, %d, %d, not %d, %d, %d", b, n, k, e, n2, k2, e2)
		}
	}
	for x := range 256 {
		check([]byte{byte(x)})
		for y := range 256 {
			check([]byte{byte(x), byte(y)})
		}
	}
	edges := []byte{0, 1, 2, 127, 128, 129, 255}
	for n := range 12 {
		for _, head := range []byte{128, 255} {
			for _, x := range edges {
				for _, y := range edges {
					for _, z := range edges {
						check(full(n, head, x, y, z))
					}
				}
			}
		}
	}
}

// P2.1: what is got is put to the very bytes.
func TestGotIsPut(t *testing.T) {
	for x := range 256 {
		for y := range 256 {
			for _, z := range []byte{0, 1, 127, 128, 255} {
				b := []byte{byte(x), byte(y), z}
				if n, k, e := Get(b); e == api.OK && !bytes.Equal(Put(n), b[:k]) {
					t.Errorf("%v: %d, %d", b, n, k)
				}
			}
		}
	}
}

// P2.2: whole numbers folded, and opened, with the least and the greatest one.
func TestFold(t *testing.T) {
	for _, x := range []struct {
		n int64
		u uint64
	}{
		{0, 0}, {-1, 1}, {1, 2}, {-2, 3}, {2, 4}, {-3, 5}, {63, 126}, {-64, 127}, {64, 128}, {-65, 129}, {1000, 2000}, {-1000, 1999},
		{math.MaxInt32, math.MaxUint32 - 1}, {math.MinInt32, math.MaxUint32}, {1 << 62, 1 << 63}, {-1 << 62, 1<<63 - 1}, {-1<<62 - 1, 1<<63 + 1},
		{math.MaxInt64, math.MaxUint64 - 1}, {math.MinInt64 + 1, math.MaxUint64 - 2}, {math.MinInt64, math.MaxUint64},
	} {
		if u := Fold(x.n); u != x.u {
			t.Errorf("Fold(%d): %d, not %d", x.n, u, x.u)
		}
		if n := Open(x.u); n != x.n {
			t.Errorf("Open(%d): %d, not %d", x.u, n, x.n)
		}
	}
}

// P2.2: 2n, or below 0 -2n - 1, by numbers however great.
func TestFoldByWords(t *testing.T) {
	for _, n := range wholes() {
		want := new(big.Int).Mul(big.NewInt(n), big.NewInt(2))
		if n < 0 {
			want.Neg(want).Sub(want, big.NewInt(1))
		}
		if u := Fold(n); !want.IsUint64() || u != want.Uint64() {
			t.Errorf("Fold(%d): %d, not %v", n, u, want)
		}
	}
}

// P2.2: what is folded is opened as it was, and what is opened is folded so.
func TestFoldedIsOpened(t *testing.T) {
	for _, n := range wholes() {
		if got := Open(Fold(n)); got != n {
			t.Errorf("%d: %d", n, got)
		}
	}
	for _, u := range numbers() {
		if got := Fold(Open(u)); got != u {
			t.Errorf("%d: %d", u, got)
		}
	}
}

// P2.3: no varint is a beginning of another one.
func TestNoVarintBeginsAnother(t *testing.T) {
	l := numbers()
	for n := range uint64(700) {
		l = append(l, n)
	}
	slices.Sort(l)
	l = slices.Compact(l)
	varints := make([][]byte, len(l))
	for i, n := range l {
		varints[i] = Put(n)
	}
	for i, a := range varints {
		for j, b := range varints {
			if i != j && bytes.HasPrefix(b, a) {
				t.Errorf("%v of %d begins %v of %d", a, l[i], b, l[j])
			}
		}
	}
}

// P2.3: a greater number's varint has no fewer bytes.
func TestGreaterHasNoFewerBytes(t *testing.T) {
	l := numbers()
	for i, n := range l[1:] {
		if Size(n) < Size(l[i]) || len(Put(n)) < len(Put(l[i])) {
			t.Errorf("%d: %d bytes, %d: %d", l[i], Size(l[i]), n, Size(n))
		}
	}
}

// P2.3: whole numbers nearer to 0 are folded to lesser ones.
func TestNearerIsLess(t *testing.T) {
	far := func(n int64) uint64 {
		if n < 0 {
			return -uint64(n)
		}
		return uint64(n)
	}
	l := wholes()
	for _, a := range l {
		for _, b := range l {
			if far(a) < far(b) && Fold(a) >= Fold(b) {
				t.Errorf("%d: %d, %d: %d", a, Fold(a), b, Fold(b))
			}
		}
	}
}

// P2.4: what is handed in stays, the room behind its length included, and what stands there doesn't count.
func TestHandedInStays(t *testing.T) {
	for _, b := range [][]byte{nil, {0}, {5}, {128}, {128, 0}, {172, 2}, {172, 2, 9, 9}, full(9, 255), full(9, 255, 1), full(9, 255, 2), full(11, 128)} {
		n, k, e := Get(b)
		for _, behind := range []byte{0, 1, 127, 255} {
			whole := append(slices.Clone(b), bytes.Repeat([]byte{behind}, 20)...)
			was := slices.Clone(whole)
			if n2, k2, e2 := Get(whole[:len(b)]); n2 != n || k2 != k || e2 != e {
				t.Errorf("Get(%v), behind it %d: %d, %d, %d, not %d, %d, %d", b, behind, n2, k2, e2, n, k, e)
			}
			if !bytes.Equal(whole, was) {
				t.Errorf("Get(%v): %v, not %v", b, whole, was)
			}
		}
	}
}

// P2.4: what is answered is new memory, with the room behind it: it shares none with another answer.
func TestAnswersAreNew(t *testing.T) {
	for _, n := range numbers() {
		first, second := Put(n), Put(n)
		was := slices.Clone(second)
		room := first[:cap(first)]
		for i := range room {
			room[i] = ^room[i]
		}
		if !bytes.Equal(second, was) || !bytes.Equal(Put(n), was) {
			t.Errorf("Put(%d): %v, not %v", n, second, was)
		}
	}
}
