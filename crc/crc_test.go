package crc

import (
	"bytes"
	"hash/crc32"
	"math/bits"
	"slices"
	"testing"
)

// most is the greatest n of which Join is promised.
const most = 1 << 40

// byWords is the sum as the chapter's words have it, bit by bit.
func byWords(b []byte) uint32 {
	w := uint32(0xffffffff)
	for _, x := range b {
		w = stepped(w^uint32(x), 8)
	}
	return w ^ 0xffffffff
}

// stepped is w, gone n times through the chapter's step.
func stepped(w uint32, n int) uint32 {
	for range n {
		off := w & 1
		w >>= 1
		w ^= off * 0x82f63b78
	}
	return w
}

// product is that of two polynomials, without what the chapter's own one divides. The highest bit of a word is that of the power 0, so that a step is a product by x.
func product(p, q uint32) uint32 {
	sum := uint32(0)
	for i := range 32 {
		if p>>(31-i)&1 == 1 {
			sum ^= stepped(q, i)
		}
	}
	return sum
}

// power is x as often as n tells.
func power(n int) uint32 {
	p := uint32(1) << 31
	for i := range bits.Len(uint(n)) {
		p = product(p, p)
		if n>>(bits.Len(uint(n))-1-i)&1 == 1 {
			p = stepped(p, 1)
		}
	}
	return p
}

// joined is what Join is to answer, of whatever n.
func joined(a, b uint32, n int) uint32 { return product(a, power(8*n)) ^ b }

// text is n bytes of which those near to each other differ.
func text(n int) []byte {
	b := make([]byte, n)
	for i := range b {
		b[i] = byte(i*i*7 + i*31 + i>>3 + 5)
	}
	return b
}

// words are sums of all kinds: no bits, all bits, one bit, all but one, and some between.
func words() []uint32 {
	l := []uint32{0, 0xffffffff, 0x82f63b78, 0x05ec76f1, 0xe3069283, 0xdeadbeef, 0x12345678, 5, 7}
	for i := range 32 {
		l = append(l, 1<<i, ^uint32(1<<i))
	}
	return l
}

// P3.1: the chapter's example, and sums that are known elsewhere (RFC 3720, B.4).
func TestOfKnown(t *testing.T) {
	rise, fall := make([]byte, 32), make([]byte, 32)
	for i := range rise {
		rise[i], fall[i] = byte(i), byte(31-i)
	}
	for _, x := range []struct {
		b    []byte
		want uint32
	}{
		{nil, 0},
		{[]byte{}, 0},
		{[]byte("123456789"), 0xe3069283},
		{make([]byte, 32), 0x8a9136aa},
		{bytes.Repeat([]byte{0xff}, 32), 0x62a8ab43},
		{rise, 0x46dd794e},
		{fall, 0x113fdb5c},
	} {
		if got := Of(x.b); got != x.want {
			t.Errorf("Of(%x): %08x, not %08x", x.b, got, x.want)
		}
	}
}

// P3.1: each byte alone, and texts of each length, by the words and by another's sum.
func TestOf(t *testing.T) {
	other := crc32.MakeTable(crc32.Castagnoli)
	check := func(b []byte) {
		t.Helper()
		got := Of(b)
		if want := byWords(b); got != want {
			t.Errorf("Of(%x): %08x, not %08x", b, got, want)
		}
		if want := crc32.Checksum(b, other); got != want {
			t.Errorf("Of(%x): %08x, another has %08x", b, got, want)
		}
	}
	for x := range 256 {
		check([]byte{byte(x)})
		check([]byte{1, byte(x), 0, byte(x), 255})
	}
	for n := range 300 {
		check(text(n))
		check(make([]byte, n))
	}
	check(text(100003))
}

// P3.1: a text cut anywhere, in two parts and in three.
func TestMoreCut(t *testing.T) {
	b := text(70)
	want := byWords(b)
	for i := range len(b) + 1 {
		first := Of(b[:i])
		if got := More(first, b[i:]); got != want {
			t.Errorf("cut at %d: %08x, not %08x", i, got, want)
		}
		for k := i; k <= len(b); k++ {
			if got := More(More(first, b[i:k]), b[k:]); got != want {
				t.Errorf("cut at %d and %d: %08x, not %08x", i, k, got, want)
			}
		}
	}
}

// P3.1: a sum goes on from whatever sum; with nothing behind, it stays as it is.
func TestMoreFrom(t *testing.T) {
	other := crc32.MakeTable(crc32.Castagnoli)
	for _, sum := range words() {
		if got := More(sum, nil); got != sum {
			t.Errorf("More(%08x, nil): %08x", sum, got)
		}
		if got := More(sum, []byte{}); got != sum {
			t.Errorf("More(%08x, none): %08x", sum, got)
		}
		for _, b := range [][]byte{{0}, {1}, {0x80}, {0xff}, text(1), text(2), text(33), make([]byte, 9)} {
			w := ^sum
			for _, x := range b {
				w = stepped(w^uint32(x), 8)
			}
			if got := More(sum, b); got != ^w || got != crc32.Update(sum, other, b) {
				t.Errorf("More(%08x, %x): %08x, not %08x", sum, b, got, ^w)
			}
		}
	}
}

// P3.2: the sums of a text's parts, joined, are the text's.
func TestJoinCut(t *testing.T) {
	for _, b := range [][]byte{nil, text(1), text(2), text(43), text(257), make([]byte, 65)} {
		for i := range len(b) + 1 {
			if got, want := Join(Of(b[:i]), Of(b[i:]), len(b)-i), byWords(b); got != want {
				t.Errorf("%d bytes, cut at %d: %08x, not %08x", len(b), i, got, want)
			}
		}
	}
}

// P3.2: of whatever two sums and small n, step by step.
func TestJoinSteps(t *testing.T) {
	for i, a := range words() {
		b := words()[(i*5+3)%len(words())]
		gone := a
		for n := range 260 {
			if got := Join(a, b, n); got != gone^b {
				t.Errorf("Join(%08x, %08x, %d): %08x, not %08x", a, b, n, got, gone^b)
			}
			gone = stepped(gone, 8)
		}
	}
}

// P3.2: with no bytes behind, the one sum is turned by the other, whatever they are; one byte is eight steps.
func TestJoinFew(t *testing.T) {
	for _, a := range words() {
		for _, b := range words() {
			if got := Join(a, b, 0); got != a^b {
				t.Errorf("Join(%08x, %08x, 0): %08x", a, b, got)
			}
			if got, want := Join(a, b, 1), stepped(a, 8)^b; got != want {
				t.Errorf("Join(%08x, %08x, 1): %08x, not %08x", a, b, got, want)
			}
		}
	}
}

// P3.2: n up to the greatest, by powers of polynomials.
func TestJoinFar(t *testing.T) {
	far := []int{most, most - 1, most - 2, most / 3, most/2 + 1, 1<<31 - 1, 1<<32 - 1, 123456789012}
	for i := range 41 {
		far = append(far, 1<<i, 1<<i-1, 3<<i/2)
	}
	for i, n := range far {
		if n > most {
			continue
		}
		for k, a := range words() {
			b := words()[(i+k*7)%len(words())]
			if got, want := Join(a, b, n), joined(a, b, n); got != want {
				t.Errorf("Join(%08x, %08x, %d): %08x, not %08x", a, b, n, got, want)
			}
		}
	}
}

// P3.2: a million noughts behind a text, at once and one by one; the greatest n in two parts.
func TestJoinNoughts(t *testing.T) {
	const n = 1000000
	none := make([]byte, n)
	for _, a := range words() {
		if got, want := Join(a, Of(none), n), More(a, none); got != want {
			t.Errorf("%08x and a million noughts: %08x, not %08x", a, got, want)
		}
		for _, part := range []int{0, 1, n, most / 2, most - 1, most} {
			if got, want := Join(Join(a, 0, part), 9, most-part), Join(a, 9, most); got != want {
				t.Errorf("%08x, far in two parts of which one is %d: %08x, not %08x", a, part, got, want)
			}
		}
	}
	if got := Join(0, 7, most); got != 7 {
		t.Errorf("Join(0, 7, most): %08x", got)
	}
}

// turned is b with the pattern's bits turned, from bit at on.
func turned(b []byte, at int, pattern uint32) []byte {
	b = slices.Clone(b)
	for i := range 32 {
		if pattern>>i&1 == 1 {
			b[(at+i)/8] ^= 1 << ((at + i) % 8)
		}
	}
	return b
}

// patterns are such as begin with a turned bit: all short ones, and of each length those with ends alone, with all, and some between.
func patterns() []uint32 {
	l := []uint32{}
	for i := range uint32(256) {
		l = append(l, i<<1|1)
	}
	for n := 1; n <= 32; n++ {
		whole := uint32(1<<n - 1)
		l = append(l, whole, 1<<(n-1)|1)
		for k := range uint32(8) {
			l = append(l, (k*0x9e3779b1+uint32(n)*0x85ebca6b)&whole|1<<(n-1)|1)
		}
	}
	// The step's own words are those that another step would let go by.
	l = append(l, 0x82f63b78|1, 0x05ec76f1, 0x1edc6f41, 0x04c11db7, 0xedb88321)
	slices.Sort(l)
	return slices.Compact(l)
}

// P3.3: some of up to 32 bits side by side, turned anywhere, across bytes too, give another sum.
func TestTurned(t *testing.T) {
	for _, b := range [][]byte{text(1), text(4), text(5), text(23), make([]byte, 12), bytes.Repeat([]byte{255}, 9)} {
		sum := Of(b)
		for at := range len(b) * 8 {
			for _, p := range patterns() {
				if at+bits.Len32(p) > len(b)*8 {
					continue
				}
				c := turned(b, at, p)
				if Of(c) == sum {
					t.Errorf("%x and %x have one sum", b, c)
				}
			}
		}
	}
}

// P3.3: in the midst of a long text, too, with a sum that went on and with sums that were joined.
func TestTurnedLong(t *testing.T) {
	b := text(3000)
	sum := Of(b)
	for _, at := range []int{0, 5, 1500*8 + 3, 2999*8 - 25, 2996 * 8} {
		for _, p := range patterns() {
			if at+bits.Len32(p) > len(b)*8 {
				continue
			}
			c := turned(b, at, p)
			if More(Of(c[:1501]), c[1501:]) == sum || Join(Of(c[:1501]), Of(c[1501:]), 1499) == sum {
				t.Errorf("bits %x turned at %d give the same sum", p, at)
			}
		}
	}
}

// P3.4: what is handed in stays, the room behind the list's length included, and what was answered stays too.
func TestStays(t *testing.T) {
	for n := range 20 {
		all := text(40)
		b := all[3 : 3+n]
		first, more := Of(b), More(77, b)
		if !bytes.Equal(all, text(40)) {
			t.Errorf("%d bytes: what was handed in is %x", n, all)
		}
		if Of(b) != first || More(77, b) != more {
			t.Errorf("%d bytes: another sum at the second time", n)
		}
	}
}
