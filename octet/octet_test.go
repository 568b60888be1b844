package octet

import (
	"bytes"
	"math"
	"slices"
	"testing"
)

// number has eight unlike bytes, so that each byte tells its place.
const number = 0x0102030405060708

// numbers are such as have an edge somewhere: no bits, one, all, a byte's end.
func numbers() []uint64 {
	l := []uint64{0, 1, 127, 128, 255, 256, 258, number, math.MaxInt64, 1 << 63, math.MaxUint64, 0xdeadbeefcafef00d}
	for i := range 64 {
		l = append(l, 1<<i, 1<<i-1)
	}
	return l
}

// texts are byte strings of 0 to 12 bytes, among them such as begin or end with bytes of 0.
func texts() [][]byte {
	var l [][]byte
	for n := range 13 {
		rising, high, edged := make([]byte, n), make([]byte, n), make([]byte, n)
		for i := range n {
			rising[i] = byte(i + 1)
			high[i] = byte(255 - 17*i)
			if i > 0 && i < n-1 {
				edged[i] = byte(0x80 + i)
			}
		}
		l = append(l, rising, high, edged)
	}
	return append(l, nil)
}

// P1.1: a number in so many bytes, in both orders.
func TestPut(t *testing.T) {
	for _, x := range []struct {
		n    uint64
		size int
		big  bool
		want []byte
	}{
		{258, 2, true, []byte{1, 2}},
		{258, 2, false, []byte{2, 1}},
		{258, 1, true, []byte{2}},
		{258, 1, false, []byte{2}},
		{258, 4, true, []byte{0, 0, 1, 2}},
		{258, 4, false, []byte{2, 1, 0, 0}},
		{number, 8, true, []byte{1, 2, 3, 4, 5, 6, 7, 8}},
		{number, 8, false, []byte{8, 7, 6, 5, 4, 3, 2, 1}},
		{number, 7, true, []byte{2, 3, 4, 5, 6, 7, 8}},
		{number, 7, false, []byte{8, 7, 6, 5, 4, 3, 2}},
		{number, 3, true, []byte{6, 7, 8}},
		{number, 3, false, []byte{8, 7, 6}},
		{math.MaxUint64, 8, true, []byte{255, 255, 255, 255, 255, 255, 255, 255}},
		{1 << 63, 8, true, []byte{128, 0, 0, 0, 0, 0, 0, 0}},
		{1 << 63, 8, false, []byte{0, 0, 0, 0, 0, 0, 0, 128}},
		{1 << 63, 7, true, []byte{0, 0, 0, 0, 0, 0, 0}},
		{0, 3, true, []byte{0, 0, 0}},
	} {
		if b := Put(x.n, x.size, x.big); !bytes.Equal(b, x.want) {
			t.Errorf("Put(%x, %d, %v): %v, not %v", x.n, x.size, x.big, b, x.want)
		}
	}
}

// P1.1: a size below 0 counts as 0, one above 8 as 8.
func TestPutOfOtherSizes(t *testing.T) {
	for _, big := range []bool{true, false} {
		for _, size := range []int{0, -1, -8, -9, math.MinInt} {
			if b := Put(number, size, big); len(b) != 0 {
				t.Errorf("size %d, big %v: %v", size, big, b)
			}
		}
		for _, size := range []int{9, 12, 16, 1 << 40, math.MaxInt} {
			for _, n := range []uint64{5, number} {
				if b, want := Put(n, size, big), Put(n, 8, big); len(b) != 8 || !bytes.Equal(b, want) {
					t.Errorf("%x, size %d, big %v: %v, not %v", n, size, big, b, want)
				}
			}
		}
	}
}

// P1.1: the number that bytes tell, in both orders; of more than 8 bytes that of the first 8.
func TestGet(t *testing.T) {
	for _, x := range []struct {
		b    []byte
		big  bool
		want uint64
	}{
		{nil, true, 0},
		{nil, false, 0},
		{[]byte{}, true, 0},
		{[]byte{}, false, 0},
		{[]byte{200}, true, 200},
		{[]byte{200}, false, 200},
		{[]byte{1, 2}, true, 258},
		{[]byte{1, 2}, false, 513},
		{[]byte{0, 0, 1}, true, 1},
		{[]byte{0, 0, 1}, false, 1 << 16},
		{[]byte{1, 2, 3, 4, 5, 6, 7}, true, 0x01020304050607},
		{[]byte{1, 2, 3, 4, 5, 6, 7}, false, 0x07060504030201},
		{[]byte{1, 2, 3, 4, 5, 6, 7, 8}, true, number},
		{[]byte{1, 2, 3, 4, 5, 6, 7, 8}, false, 0x0807060504030201},
		{[]byte{1, 2, 3, 4, 5, 6, 7, 8, 9}, true, number},
		{[]byte{1, 2, 3, 4, 5, 6, 7, 8, 9}, false, 0x0807060504030201},
		{[]byte{255, 255, 255, 255, 255, 255, 255, 255, 0, 1}, true, math.MaxUint64},
		{[]byte{255, 255, 255, 255, 255, 255, 255, 255, 0, 1}, false, math.MaxUint64},
	} {
		if n := Get(x.b, x.big); n != x.want {
			t.Errorf("Get(%v, %v): %x, not %x", x.b, x.big, n, x.want)
		}
	}
}

// P1.1: of many more than 8 bytes, too, the first 8 alone count.
func TestGetOfManyBytes(t *testing.T) {
	b := make([]byte, 1000)
	for i := range b {
		b[i] = byte(i + 1)
	}
	if n := Get(b, true); n != number {
		t.Errorf("big: %x", n)
	}
	if n := Get(b, false); n != 0x0807060504030201 {
		t.Errorf("not big: %x", n)
	}
}

// P1.1: the bytes, the last one first.
func TestTurn(t *testing.T) {
	for _, x := range []struct{ b, want []byte }{
		{nil, nil},
		{[]byte{}, nil},
		{[]byte{7}, []byte{7}},
		{[]byte{1, 2}, []byte{2, 1}},
		{[]byte{1, 2, 3}, []byte{3, 2, 1}},
		{[]byte{0, 0, 9}, []byte{9, 0, 0}},
		{[]byte{1, 2, 3, 4, 5, 6, 7, 8, 9, 10}, []byte{10, 9, 8, 7, 6, 5, 4, 3, 2, 1}},
	} {
		if b := Turn(x.b); !bytes.Equal(b, x.want) {
			t.Errorf("Turn(%v): %v, not %v", x.b, b, x.want)
		}
	}
}

// P1.2: how many bytes are lacking to a multiple of 4.
func TestPad(t *testing.T) {
	for _, x := range []struct{ n, want int }{
		{0, 0}, {1, 3}, {2, 2}, {3, 1}, {4, 0}, {5, 3}, {6, 2}, {7, 1}, {8, 0}, {255, 1}, {256, 0}, {65535, 1}, {65536, 0}, {65537, 3}, {1 << 40, 0},
		{math.MaxInt, 1}, {math.MaxInt - 1, 2}, {math.MaxInt - 2, 3}, {math.MaxInt - 3, 0},
		{-1, 0}, {-2, 0}, {-3, 0}, {-4, 0}, {-5, 0}, {-7, 0}, {math.MinInt, 0}, {math.MinInt + 1, 0},
	} {
		if got := Pad(x.n); got != x.want {
			t.Errorf("Pad(%d): %d, not %d", x.n, got, x.want)
		}
	}
	for n := range 1000 {
		if got := Pad(n); got < 0 || got > 3 || (n+got)%4 != 0 {
			t.Errorf("Pad(%d): %d", n, got)
		}
	}
}

// P1.2: the bytes, and behind them as many bytes of 0 as are lacking.
func TestPadded(t *testing.T) {
	for _, x := range []struct{ b, want []byte }{
		{nil, nil},
		{[]byte{}, nil},
		{[]byte{1}, []byte{1, 0, 0, 0}},
		{[]byte{1, 2}, []byte{1, 2, 0, 0}},
		{[]byte{1, 2, 3}, []byte{1, 2, 3, 0}},
		{[]byte{1, 2, 3, 4}, []byte{1, 2, 3, 4}},
		{[]byte{1, 2, 3, 4, 5}, []byte{1, 2, 3, 4, 5, 0, 0, 0}},
		{[]byte{0, 0, 0}, []byte{0, 0, 0, 0}},
		{[]byte{1, 2, 3, 4, 5, 6, 7, 8}, []byte{1, 2, 3, 4, 5, 6, 7, 8}},
	} {
		if b := Padded(x.b); !bytes.Equal(b, x.want) {
			t.Errorf("Padded(%v): %v, not %v", x.b, b, x.want)
		}
	}
	for n := range 300 {
		b := bytes.Repeat([]byte{9}, n)
		if got, want := Padded(b), append(slices.Clone(b), make([]byte, Pad(n))...); !bytes.Equal(got, want) {
			t.Errorf("of %d bytes: %v", n, got)
		}
	}
}

// P1.3: what is put in 8 bytes is got as it was, in fewer its rest; in more as in 8.
func TestPutIsGot(t *testing.T) {
	for _, n := range numbers() {
		for _, big := range []bool{true, false} {
			for size := range 11 {
				want := n
				if size < 8 {
					want = n % (1 << (8 * size))
				}
				if got := Get(Put(n, size, big), big); got != want {
					t.Errorf("%x, size %d, big %v: %x, not %x", n, size, big, got, want)
				}
			}
		}
	}
}

// P1.3: what is got is put to the very bytes.
func TestGotIsPut(t *testing.T) {
	for _, b := range texts() {
		for _, big := range []bool{true, false} {
			if got, want := Put(Get(b, big), len(b), big), b[:min(len(b), 8)]; !bytes.Equal(got, want) {
				t.Errorf("%v, big %v: %v, not %v", b, big, got, want)
			}
		}
	}
}

// P1.3: the other order is the bytes, turned.
func TestOtherOrder(t *testing.T) {
	for _, n := range numbers() {
		for size := -1; size < 11; size++ {
			big, small := Put(n, size, true), Put(n, size, false)
			if !bytes.Equal(Turn(big), small) || !bytes.Equal(Turn(small), big) {
				t.Errorf("%x, size %d: %v and %v", n, size, big, small)
			}
		}
	}
	for _, b := range texts() {
		if len(b) <= 8 && (Get(b, true) != Get(Turn(b), false) || Get(b, false) != Get(Turn(b), true)) {
			t.Errorf("got of %v, and turned", b)
		}
		if !bytes.Equal(Turn(Turn(b)), b) {
			t.Errorf("turned twice: %v", b)
		}
	}
}

// P1.4: what is handed in stays, the room behind its length included.
func TestHandedInStays(t *testing.T) {
	for _, b := range texts() {
		for name, call := range map[string]func(b []byte){
			"Get, big":     func(b []byte) { Get(b, true) },
			"Get, not big": func(b []byte) { Get(b, false) },
			"Turn":         func(b []byte) { spoil(Turn(b)) },
			"Padded":       func(b []byte) { spoil(Padded(b)) },
		} {
			whole := append(slices.Clone(b), bytes.Repeat([]byte{77}, 20)...)
			was := slices.Clone(whole)
			call(whole[:len(b)])
			if !bytes.Equal(whole, was) {
				t.Errorf("%s of %v: %v, not %v", name, b, whole, was)
			}
		}
	}
}

// P1.4: what is answered is new memory: it shares none with another answer.
func TestAnswersAreNew(t *testing.T) {
	for _, b := range texts() {
		for name, call := range map[string]func() []byte{
			"Put, big":     func() []byte { return Put(number, len(b), true) },
			"Put, not big": func() []byte { return Put(number, len(b), false) },
			"Turn":         func() []byte { return Turn(b) },
			"Padded":       func() []byte { return Padded(b) },
		} {
			first, second := call(), call()
			was := slices.Clone(second)
			spoil(first)
			if !bytes.Equal(second, was) || !bytes.Equal(call(), was) {
				t.Errorf("%s, of %d bytes", name, len(b))
			}
		}
	}
}

// P1.4: the room behind an answer isn't another answer's, nor that of what was handed in.
func TestRoomIsNew(t *testing.T) {
	for _, b := range texts() {
		for name, call := range map[string]func(b []byte) []byte{"Turn": Turn, "Padded": Padded} {
			whole := append(slices.Clone(b), bytes.Repeat([]byte{77}, 20)...)
			was := slices.Clone(whole)
			first, second := call(whole[:len(b)]), call(whole[:len(b)])
			longer := append(first, 1, 2, 3)
			other := append(second, 4, 5, 6)
			if !bytes.Equal(longer[len(first):], []byte{1, 2, 3}) || !bytes.Equal(other[len(second):], []byte{4, 5, 6}) || !bytes.Equal(whole, was) {
				t.Errorf("%s of %v", name, b)
			}
		}
	}
}

// What a call answers hangs on its arguments alone: not on the room behind them, nor on what stands there.
func TestRoomDoesNotCount(t *testing.T) {
	for _, b := range texts() {
		roomy := append(slices.Clone(b), bytes.Repeat([]byte{77}, 20)...)[:len(b)]
		if Get(b, true) != Get(roomy, true) || Get(b, false) != Get(roomy, false) || !bytes.Equal(Turn(b), Turn(roomy)) || !bytes.Equal(Padded(b), Padded(roomy)) {
			t.Errorf("%v", b)
		}
	}
}

// spoil overwrites an answer, with all the room behind its length.
func spoil(b []byte) {
	b = b[:cap(b)]
	for i := range b {
		b[i] = ^b[i]
	}
}
