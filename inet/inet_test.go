package inet

import (
	"bytes"
	"encoding/binary"
	"math"
	"math/big"
	"slices"
	"testing"

	"wayleave/api"
)

// all is the greatest word.
const all = 0xffff

// inRing is numbers of 16 bits by the words: added one by one, each time till nothing goes beyond 16 bits.
func inRing(l ...uint16) uint16 {
	sum := 0
	for _, x := range l {
		sum += int(x)
		for sum > all {
			sum = sum%(all+1) + 1
		}
	}
	return uint16(sum)
}

// wordsOf are the words of b.
func wordsOf(b []byte) []uint16 {
	b = slices.Clone(b)
	if len(b)%2 == 1 {
		b = append(b, 0)
	}
	l := make([]uint16, len(b)/2)
	for i := range l {
		l[i] = binary.BigEndian.Uint16(b[2*i:])
	}
	return l
}

// bytesOf are the bytes of words.
func bytesOf(l ...uint16) []byte {
	var b []byte
	for _, x := range l {
		b = binary.BigEndian.AppendUint16(b, x)
	}
	return b
}

// told is what Sum is to answer, by the words.
func told(parts ...[]byte) uint16 { return all - inRing(wordsOf(slices.Concat(parts...))...) }

// byRest is what Sum is to answer, by another way: all bytes as one number, of which the rest to ffff counts.
func byRest(b []byte) uint16 {
	b = slices.Clone(b)
	if len(b)%2 == 1 {
		b = append(b, 0)
	}
	n := new(big.Int).SetBytes(b)
	if n.Sign() == 0 {
		return all
	}
	rest := n.Mod(n, big.NewInt(all)).Int64()
	if rest == 0 {
		return 0
	}
	return uint16(all - rest)
}

// changedWord is what Change is to answer, by the words.
func changedWord(c, m, n uint16) uint16 { return all - inRing(all-c, all-m, n) }

// longTo is b, with bytes of 0 behind it up to n bytes.
func longTo(b []byte, n int) []byte {
	return append(slices.Clone(b), make([]byte, n-len(b))...)
}

// changed is what Changed is to answer, by the words.
func changed(c uint16, from, to []byte) uint16 {
	n := max(len(from), len(to))
	a, b := wordsOf(longTo(from, n)), wordsOf(longTo(to, n))
	for i := range a {
		c = changedWord(c, a[i], b[i])
	}
	return c
}

// text is n bytes of which those near to each other differ.
func text(n int) []byte {
	b := make([]byte, n)
	for i := range b {
		b[i] = byte(i*i*7 + i*31 + i>>3 + 5)
	}
	return b
}

// fills are n bytes each: all 0, all bits, one that isn't 0 at each end, and such as differ.
func fills(n int) [][]byte {
	l := [][]byte{make([]byte, n), bytes.Repeat([]byte{255}, n), text(n)}
	if n > 0 {
		first, last := make([]byte, n), make([]byte, n)
		first[0], last[n-1] = 1, 1
		l = append(l, first, last)
	}
	return l
}

// edges are words: no bits, all, a byte's, one, all but one, and some between.
func edges() []uint16 {
	l := []uint16{0, all, 0x00ff, 0xff00, 0x0101, 0x1234, 0xdd2f, 0x5555, 0x3285, 0xcafe, 0x220d, 0xddf2}
	for i := range 16 {
		l = append(l, 1<<i, all-1<<i, 1<<i-1)
	}
	return l
}

// chance is a row of numbers that looks like chance, and is the same each time.
type chance uint64

func (c *chance) below(n int) int {
	*c = *c*6364136223846793005 + 1442695040888963407
	return int(uint64(*c>>33) % uint64(n))
}

// some are up to n bytes, many of them 0 or all bits.
func (c *chance) some(n int) []byte {
	b := make([]byte, c.below(n+1))
	for i := range b {
		b[i] = []byte{0, 255, byte(c.below(256)), byte(c.below(256))}[c.below(4)]
	}
	return b
}

// short is b, or what is told of it where it is long.
func short(b []byte) []byte { return b[:min(len(b), 40)] }

// checkSum holds what Sum and Right answer against want.
func checkSum(t *testing.T, want uint16, parts ...[]byte) {
	t.Helper()
	b := slices.Concat(parts...)
	if n := Sum(parts...); n != want {
		t.Errorf("Sum of %d parts, %x: %x, not %x", len(parts), short(b), n, want)
	}
	if r := Right(parts...); r != (want == 0) {
		t.Errorf("Right of %d parts, %x: %v; the checksum is %x", len(parts), short(b), r, want)
	}
}

// checkChanged holds what Changed answers against want.
func checkChanged(t *testing.T, c uint16, from, to []byte, want uint16) {
	t.Helper()
	if n := Changed(c, from, to); n != want {
		t.Errorf("Changed(%x, %x, %x): %x, not %x", c, short(from), short(to), n, want)
	}
}

// P6.1: checksums that are known; the chapter's example is the first one.
func TestSumKnown(t *testing.T) {
	for _, x := range []struct {
		b    []byte
		want uint16
	}{
		{[]byte{0x00, 0x01, 0xf2, 0x03, 0xf4, 0xf5, 0xf6, 0xf7}, 0x220d},
		{nil, 0xffff},
		{[]byte{}, 0xffff},
		{[]byte{0}, 0xffff},
		{[]byte{0, 0}, 0xffff},
		{make([]byte, 99), 0xffff},
		{[]byte{1}, 0xfeff},
		{[]byte{255}, 0x00ff},
		{[]byte{0, 1}, 0xfffe},
		{[]byte{0x12, 0x34}, 0xedcb},
		{[]byte{1, 2, 3}, 0xfbfd},
		{[]byte{255, 255}, 0},
		{[]byte{255, 255, 255}, 0x00ff},
		{[]byte{255, 255, 0, 1}, 0xfffe},
		{[]byte{255, 255, 255, 255}, 0},
		{[]byte{255, 254, 0, 1}, 0},
		{[]byte{0x80, 0, 0x80, 0}, 0xfffe},
		{[]byte{0x45, 0, 0, 0x73, 0, 0, 0x40, 0, 0x40, 0x11, 0, 0, 0xc0, 0xa8, 0, 1, 0xc0, 0xa8, 0, 0xc7}, 0xb861},
		{[]byte{0x45, 0, 0, 0x3c, 0x1c, 0x46, 0x40, 0, 0x40, 0x06, 0, 0, 0xac, 0x10, 0x0a, 0x63, 0xac, 0x10, 0x0a, 0x0c}, 0xb1e6},
	} {
		checkSum(t, x.want, x.b)
	}
}

// P6.1: no parts, and parts of no bytes, are bytes of which none counts.
func TestSumOfNothing(t *testing.T) {
	checkSum(t, all)
	checkSum(t, all, nil)
	checkSum(t, all, nil, []byte{}, nil)
	checkSum(t, 0xfeff, nil, []byte{1}, nil)
	checkSum(t, 0xfefd, nil, []byte{1}, nil, []byte{}, []byte{2}, nil)
}

// P6.1: a byte left over from a part is a word with the first one that follows, in whichever part this stands.
func TestSumOfOddParts(t *testing.T) {
	checkSum(t, 0xfefd, []byte{1}, []byte{2})
	checkSum(t, 0xfbfd, []byte{1}, []byte{2}, []byte{3})
	checkSum(t, 0xfbf9, []byte{1}, []byte{2}, []byte{3}, []byte{4})
	checkSum(t, 0xf6f9, []byte{1, 2, 3}, []byte{4, 5})
	checkSum(t, 0xf6f9, []byte{1}, nil, []byte{2, 3}, nil, []byte{4, 5})
	checkSum(t, 0xf6f9, []byte{1, 2, 3}, []byte{4}, []byte{5})
	checkSum(t, 0, []byte{255}, []byte{255})
}

// P6.1: bytes of all lengths, cut into parts everywhere, by the words and by another way.
func TestSumByWords(t *testing.T) {
	for n := range 40 {
		for _, b := range fills(n) {
			want := told(b)
			if rest := byRest(b); rest != want {
				t.Fatalf("%x: the words have %x, the rest %x", b, want, rest)
			}
			checkSum(t, want, b)
			var ones [][]byte
			for i := range b {
				ones = append(ones, b[i:i+1])
			}
			checkSum(t, want, ones...)
			for i := range n + 1 {
				for k := i; k <= n; k++ {
					checkSum(t, want, b[:i], b[i:k], b[k:])
				}
			}
		}
	}
}

// P6.1: every word alone, and beside some others.
func TestSumOfEachWord(t *testing.T) {
	for x := range all + 1 {
		checkSum(t, uint16(all-x), bytesOf(uint16(x)))
		for _, y := range []uint16{1, 0x8000, all} {
			checkSum(t, all-inRing(uint16(x), y), bytesOf(uint16(x), y))
		}
	}
}

// P6.1: sums that go beyond 16 bits, and do so again when what went beyond is added.
func TestSumBeyond(t *testing.T) {
	for n := range 70 {
		for _, last := range edges() {
			b := append(bytes.Repeat([]byte{255}, 2*n), bytesOf(last)...)
			checkSum(t, told(b), b)
		}
	}
	for _, x := range []struct {
		n    int
		last uint16
	}{{0x8000, 0x7fff}, {0x8000, 0x8000}, {0x8000, 0x8001}, {all, 1}, {all, 0}, {all, all}, {0x10000, 0}, {0x10001, 0}, {0x10001, 1}, {0x10000, all}} {
		for _, word := range []uint16{all, 0xfffe, 0x8000, 0xff00, 1} {
			b := append(bytes.Repeat(bytesOf(word), x.n), bytesOf(x.last)...)
			checkSum(t, told(b), b)
		}
	}
}

// P6.1: many bytes, more than a sum of 32 bits has room for.
func TestSumOfMany(t *testing.T) {
	for _, n := range []int{api.MaxFrame - 1, api.MaxFrame, api.MaxRecord, api.MaxRecord + 1, 1<<24 + 3} {
		b := bytes.Repeat([]byte{255}, n)
		want := uint16(0)
		if n%2 == 1 {
			want = 0x00ff
		}
		checkSum(t, want, b)
		checkSum(t, want, b[:n/3], b[n/3:])
		b = text(n)
		checkSum(t, told(b), b)
	}
	var parts [][]byte
	for i := range 20000 {
		parts = append(parts, text(i%5))
	}
	checkSum(t, told(parts...), parts...)
}

// P6.1: bytes of all kinds in parts of all kinds.
func TestSumOfSome(t *testing.T) {
	c := chance(6)
	for range 30000 {
		var parts [][]byte
		for range c.below(7) {
			parts = append(parts, c.some(9))
		}
		want := told(parts...)
		if rest := byRest(slices.Concat(parts...)); rest != want {
			t.Fatalf("%x: the words have %x, the rest %x", parts, want, rest)
		}
		checkSum(t, want, parts...)
	}
}

// P6.1: right are bytes in which their checksum stands at an even place, and no others that differ from them in one bit.
func TestRightAtEven(t *testing.T) {
	for n := 2; n < 30; n++ {
		for _, b := range fills(n) {
			for at := 0; at+2 <= n; at += 2 {
				b := slices.Clone(b)
				b[at], b[at+1] = 0, 0
				copy(b[at:], bytesOf(Sum(b)))
				if !Right(b) || !Right(b[:at+1], b[at+1:]) {
					t.Errorf("%x isn't right", b)
				}
				for i := range 8 * n {
					b[i/8] ^= 1 << (i % 8)
					if Right(b) || Right(b[:n-1], b[n-1:]) {
						t.Errorf("%x is right, with bit %d turned", b, i)
					}
					b[i/8] ^= 1 << (i % 8)
				}
			}
		}
	}
}

// P6.1: at an odd place a checksum is right only where its two bytes, turned round, are the same words.
func TestRightAtOdd(t *testing.T) {
	for n := 3; n < 30; n++ {
		for _, b := range fills(n) {
			for at := 1; at+2 <= n; at += 2 {
				b := slices.Clone(b)
				b[at], b[at+1] = 0, 0
				sum := Sum(b)
				copy(b[at:], bytesOf(sum))
				if r := Right(b); r != (sum>>8 == sum&255) {
					t.Errorf("%x, its checksum %x at %d: right %v", b, sum, at, r)
				}
				copy(b[at:], bytesOf(sum<<8|sum>>8))
				if !Right(b) {
					t.Errorf("%x isn't right", b)
				}
			}
		}
	}
}

// P6.1: right is what has the checksum 0, and nothing else.
func TestRight(t *testing.T) {
	for _, b := range [][]byte{nil, {}, {0}, {0, 0}, {255}, {255, 254}, {0, 1}, {255, 255, 0, 1}, {255, 255, 255}, make([]byte, 20)} {
		if Right(b) {
			t.Errorf("%x is right", b)
		}
	}
	if Right() || Right(nil, nil) {
		t.Error("nothing is right")
	}
	for _, b := range [][]byte{{255, 255}, {255, 255, 0}, {255, 255, 0, 0}, {255, 0, 0, 255}, {0, 255, 255}, {255, 254, 0, 1}, {0x80, 0, 0x7f, 255}} {
		if !Right(b) || !Right(b[:1], b[1:]) {
			t.Errorf("%x isn't right", b)
		}
	}
}

// P6.2: changed checksums that are known; RFC 1624's example is the first one.
func TestChangeKnown(t *testing.T) {
	for _, x := range []struct{ c, m, n, want uint16 }{
		{0xdd2f, 0x5555, 0x3285, 0x0000},
		{0x220d, 0xf203, 0xf203, 0x220d},
		{0x220d, 0xf203, 0x0000, 0x1411},
		{0x220d, 0x0001, 0x0000, 0x220e},
		{0x220d, 0x0000, 0x0001, 0x220c},
		{0x220d, 0x0000, 0xffff, 0x220d},
		{0x220d, 0xffff, 0x0000, 0x220d},
		{0x0000, 0x0000, 0x0000, 0x0000},
		{0x0000, 0x0000, 0x0001, 0xfffe},
		{0x0000, 0x0001, 0x0000, 0x0001},
		{0x0000, 0xffff, 0x0000, 0x0000},
		{0x0000, 0x0000, 0xffff, 0x0000},
		{0x0000, 0xffff, 0xffff, 0x0000},
		{0xffff, 0x0000, 0x0000, 0x0000},
		{0xffff, 0x1234, 0x1234, 0x0000},
		{0xffff, 0xffff, 0xffff, 0x0000},
		{0xffff, 0xffff, 0x0000, 0xffff},
		{0xffff, 0xffff, 0x0001, 0xfffe},
		{0xffff, 0x0000, 0x0001, 0xfffe},
		{0xffff, 0x0000, 0xffff, 0x0000},
		{0xfffe, 0x0001, 0x0000, 0x0000},
		{0x8000, 0x8000, 0x8001, 0x7fff},
	} {
		if c := Change(x.c, x.m, x.n); c != x.want {
			t.Errorf("Change(%x, %x, %x): %x, not %x", x.c, x.m, x.n, c, x.want)
		}
	}
}

// P6.2: words at edges, changed to each other, to themselves, to 0, from 0 and to ffff, with all checksums or those at edges.
func TestChangeByWords(t *testing.T) {
	check := func(c, m, n uint16) {
		if got, want := Change(c, m, n), changedWord(c, m, n); got != want {
			t.Errorf("Change(%x, %x, %x): %x, not %x", c, m, n, got, want)
		}
	}
	for _, m := range edges() {
		for _, n := range edges() {
			for _, c := range edges() {
				check(c, m, n)
			}
		}
	}
	for x := range all + 1 {
		for _, y := range edges() {
			x := uint16(x)
			check(x, y, y)
			check(x, 0, y)
			check(x, y, 0)
			check(x, y, all)
			check(y, x, x)
			check(y, 0, x)
			check(y, x, 0)
			check(y, x, all)
		}
	}
}

// P6.2: a word changed to itself leaves each checksum but ffff, which becomes the other one of its kind.
func TestChangeToItself(t *testing.T) {
	for c := range all {
		for _, m := range edges() {
			if n := Change(uint16(c), m, m); n != uint16(c) {
				t.Errorf("Change(%x, %x, %x): %x", c, m, m, n)
			}
			if n := Change(all, m, m); n != 0 {
				t.Errorf("Change(ffff, %x, %x): %x", m, m, n)
			}
		}
	}
}

// P6.2: changes of bytes that are known.
func TestChangedKnown(t *testing.T) {
	for _, x := range []struct {
		c        uint16
		from, to []byte
		want     uint16
	}{
		{0x1234, nil, nil, 0x1234},
		{0xffff, nil, []byte{}, 0xffff},
		{0xffff, nil, []byte{0}, 0},
		{0x0000, nil, nil, 0},
		{0xdd2f, []byte{0x55, 0x55}, []byte{0x32, 0x85}, 0},
		{0x220d, []byte{0, 1}, nil, 0x220e},
		{0x220d, nil, []byte{0, 1}, 0x220c},
		{0x220d, nil, []byte{1}, 0x210d},
		{0x220d, []byte{1}, nil, 0x230d},
		{0x220d, []byte{1}, []byte{1, 1}, 0x220c},
		{0x220d, []byte{1, 1}, []byte{1}, 0x220e},
		{0x1234, []byte{1, 2, 3}, []byte{1, 2, 3, 0}, 0x1234},
		{0x1234, []byte{1, 2, 3, 0, 0}, []byte{1, 2, 3}, 0x1234},
		{0x1234, []byte{1, 2, 3}, []byte{1, 2, 2}, 0x1334},
		{0x1234, []byte{1, 2, 3, 4}, []byte{3, 4, 1, 2}, 0x1234},
		{0xb861, []byte{192, 168, 0, 1}, []byte{10, 0, 0, 1}, 0x6f0a},
	} {
		checkChanged(t, x.c, x.from, x.to, x.want)
	}
}

// P6.2: texts of all lengths at edges, of one length and of others, by the words.
func TestChangedByWords(t *testing.T) {
	for n := range 12 {
		for k := range 12 {
			for _, from := range fills(n) {
				for _, to := range fills(k) {
					for _, c := range []uint16{0, 1, 0x00ff, 0x1234, 0x8000, 0xfffe, all} {
						checkChanged(t, c, from, to, changed(c, from, to))
					}
				}
			}
		}
	}
}

// P6.2: texts of all kinds; the shorter one is as with bytes of 0 behind it.
func TestChangedOfSome(t *testing.T) {
	c := chance(62)
	for range 30000 {
		sum, from, to := uint16(c.below(all+1)), c.some(13), c.some(13)
		want := changed(sum, from, to)
		checkChanged(t, sum, from, to, want)
		n := max(len(from), len(to))
		checkChanged(t, sum, longTo(from, n), to, want)
		checkChanged(t, sum, from, longTo(to, n), want)
		checkChanged(t, sum, longTo(from, n+n%2), longTo(to, n+n%2), want)
	}
}

// P6.2: long texts.
func TestChangedLong(t *testing.T) {
	for _, n := range []int{api.MaxFrame, 200001} {
		for _, to := range [][]byte{nil, make([]byte, n), bytes.Repeat([]byte{255}, n/2), text(n + 1)} {
			checkChanged(t, 0x1234, text(n), to, changed(0x1234, text(n), to))
			checkChanged(t, 0x1234, to, text(n), changed(0x1234, to, text(n)))
		}
	}
}

// P6.3: pseudo headers that are known, byte by byte.
func TestPseudoKnown(t *testing.T) {
	a, b := api.Addr{B: [16]byte{1, 2, 3, 4}}, api.Addr{B: [16]byte{5, 6, 7, 8}}
	c := api.Addr{Six: true, B: [16]byte{1, 2, 3, 4, 5, 6, 7, 8, 9, 10, 11, 12, 13, 14, 15, 16}}
	d := api.Addr{Six: true, B: [16]byte{0xfe, 0x80, 15: 17}}
	for _, x := range []struct {
		src, dst      api.Addr
		proto, length int
		want          []byte
	}{
		{a, b, 17, 0x0102, []byte{1, 2, 3, 4, 5, 6, 7, 8, 0, 17, 1, 2}},
		{b, a, 6, 20, []byte{5, 6, 7, 8, 1, 2, 3, 4, 0, 6, 0, 20}},
		{a, a, 0, 0, []byte{1, 2, 3, 4, 1, 2, 3, 4, 0, 0, 0, 0}},
		{a, b, 255, 65535, []byte{1, 2, 3, 4, 5, 6, 7, 8, 0, 255, 255, 255}},
		{api.Addr{}, api.Addr{}, 17, 255, []byte{0, 0, 0, 0, 0, 0, 0, 0, 0, 17, 0, 255}},
		{c, d, 17, 0x0102, []byte{1, 2, 3, 4, 5, 6, 7, 8, 9, 10, 11, 12, 13, 14, 15, 16, 0xfe, 0x80, 0, 0, 0, 0, 0, 0, 0, 0, 0, 0, 0, 0, 0, 17, 0, 0, 1, 2, 0, 0, 0, 17}},
		{d, c, 6, 20, []byte{0xfe, 0x80, 0, 0, 0, 0, 0, 0, 0, 0, 0, 0, 0, 0, 0, 17, 1, 2, 3, 4, 5, 6, 7, 8, 9, 10, 11, 12, 13, 14, 15, 16, 0, 0, 0, 20, 0, 0, 0, 6}},
		{d, d, 255, 65535, append(slices.Concat(d.B[:], d.B[:]), 0, 0, 255, 255, 0, 0, 0, 255)},
		{api.Addr{Six: true}, api.Addr{Six: true}, 0, 0, make([]byte, 40)},
	} {
		if p := Pseudo(x.src, x.dst, x.proto, x.length); !bytes.Equal(p, x.want) {
			t.Errorf("Pseudo(%v, %v, %d, %d): %x, not %x", x.src, x.dst, x.proto, x.length, p, x.want)
		}
	}
}

// P6.3: each protocol and each length, of both families.
func TestPseudoOfAll(t *testing.T) {
	a, b := api.Addr{}, api.Addr{}
	copy(a.B[:], text(16))
	copy(b.B[:], bytes.Repeat([]byte{200}, 16))
	check := func(proto, length int) {
		two := binary.BigEndian.AppendUint16(nil, uint16(length))
		four := slices.Concat(a.B[:4], b.B[:4], []byte{0, byte(proto)}, two)
		if p := Pseudo(a, b, proto, length); !bytes.Equal(p, four) {
			t.Errorf("protocol %d, length %d: %x, not %x", proto, length, p, four)
		}
		six := slices.Concat(a.B[:], b.B[:], []byte{0, 0}, two, []byte{0, 0, 0, byte(proto)})
		p := Pseudo(api.Addr{Six: true, B: a.B}, api.Addr{Six: true, B: b.B}, proto, length)
		if !bytes.Equal(p, six) {
			t.Errorf("protocol %d, length %d: %x, not %x", proto, length, p, six)
		}
	}
	for proto := range 256 {
		for _, length := range []int{0, 1, 255, 256, 65535} {
			check(proto, length)
		}
	}
	for length := range 65536 {
		check(17, length)
	}
}

// P6.3: of an address of IPv4 the first four bytes count, whatever is behind them.
func TestPseudoOfFourBytes(t *testing.T) {
	a := api.Addr{B: [16]byte{1, 2, 3, 4, 5, 6, 7, 8, 15: 16}}
	if p := Pseudo(a, a, 6, 20); !bytes.Equal(p, []byte{1, 2, 3, 4, 1, 2, 3, 4, 0, 6, 0, 20}) {
		t.Errorf("%x", p)
	}
}

// P1: of what nothing is promised the call still ends, and doesn't panic.
func TestPseudoOfOthers(t *testing.T) {
	for _, six := range []bool{true, false} {
		for _, too := range []bool{true, false} {
			for _, n := range []int{-1, 256, 65536, 1 << 32, math.MaxInt, math.MinInt} {
				Pseudo(api.Addr{Six: six}, api.Addr{Six: too}, n, n)
			}
		}
	}
}

// P6.3: a segment of UDP whose checksum is known, with its pseudo header ahead of it, in parts.
func TestPseudoSummed(t *testing.T) {
	src, dst := api.Addr{B: [16]byte{152, 1, 51, 27}}, api.Addr{B: [16]byte{152, 14, 94, 75}}
	segment := []byte{0xa0, 0x8f, 0x26, 0x94, 0, 0x0a, 0, 0, 0x62, 0x62}
	p := Pseudo(src, dst, 17, len(segment))
	checkSum(t, 0x14de, p, segment)
	segment[6], segment[7] = 0x14, 0xde
	checkSum(t, 0, p, segment)
}

// P6.4: the order of words doesn't matter.
func TestOrderOfWords(t *testing.T) {
	c := chance(64)
	for range 5000 {
		words := wordsOf(c.some(40))
		want := Sum(bytesOf(words...))
		slices.Reverse(words)
		checkSum(t, want, bytesOf(words...))
		slices.Sort(words)
		checkSum(t, want, bytesOf(words...))
		for i := range words {
			k := c.below(i + 1)
			words[i], words[k] = words[k], words[i]
		}
		checkSum(t, want, bytesOf(words...))
	}
}

// P6.4: a checksum that is changed along with its bytes is the one of these, worked out anew.
func TestChangedIsSum(t *testing.T) {
	c := chance(641)
	for range 30000 {
		was := longTo(c.some(24), 24)
		at := 2 * c.below(13)
		to := c.some(24 - at)
		is := slices.Clone(was)
		copy(is[at:], to)
		if slices.Max(is) > 0 {
			checkChanged(t, Sum(was), was[at:at+len(to)], to, Sum(is))
		}
	}
}

// P6.4: a text that grows or shrinks at the end of its bytes is changed so, too.
func TestChangedLength(t *testing.T) {
	head := text(6)
	for n := range 12 {
		for k := range 12 {
			for _, from := range fills(n) {
				for _, to := range fills(k) {
					was, is := slices.Concat(head, from), slices.Concat(head, to)
					checkChanged(t, Sum(was), from, to, Sum(is))
				}
			}
		}
	}
}

// P6.4: a change of an odd number of bytes leaves the other byte of its last word, whatever that is.
func TestChangedOdd(t *testing.T) {
	for n := 1; n < 9; n += 2 {
		for _, to := range fills(n) {
			was := text(12)
			is := slices.Concat(was[:2], to, was[2+n:])
			checkChanged(t, Sum(was), was[2:2+n], to, Sum(is))
		}
	}
}

// P6.4: words at edges, changed where nothing else stands, and beside others.
func TestChangeIsSum(t *testing.T) {
	for _, rest := range [][]byte{nil, {0, 0}, {0, 1}, {255, 254}, {255, 255}, {0x80, 0}, text(9)} {
		for _, m := range edges() {
			for _, n := range edges() {
				was, is := append(bytesOf(m), rest...), append(bytesOf(n), rest...)
				if slices.Max(is) == 0 {
					continue
				}
				if c, want := Change(Sum(was), m, n), Sum(is); c != want {
					t.Errorf("%x to %x: %x, not %x", was, is, c, want)
				}
			}
		}
	}
}

// P6.2, P6.4: where all bytes are 0 behind a change the words still hold: it is 0 then, where the bytes' own checksum is ffff.
func TestChangedToNoughts(t *testing.T) {
	for n := 1; n < 20; n++ {
		for _, was := range fills(n) {
			checkChanged(t, Sum(was), was, nil, 0)
			checkChanged(t, Sum(was), was, make([]byte, n), 0)
			checkChanged(t, 0, make([]byte, n), was, Sum(was)%all)
			if slices.Max(was) > 0 {
				checkChanged(t, all, nil, was, Sum(was))
			}
		}
	}
}

// spoil overwrites bytes, with all the room behind their length.
func spoil(b []byte) {
	b = b[:cap(b)]
	for i := range b {
		b[i] = ^b[i]
	}
}

// P6.5: parts stay, and so does the room behind them, which doesn't count.
func TestPartsStay(t *testing.T) {
	for n := range 20 {
		for _, behind := range []byte{0, 1, 255} {
			whole := append(text(n), bytes.Repeat([]byte{behind}, 8)...)
			was := slices.Clone(whole)
			parts := [][]byte{whole[:n/3], whole[n/3 : n], whole[:n], nil, whole}
			want := told(text(n), text(n))
			checkSum(t, want, parts[:3]...)
			for i, p := range parts[:3] {
				if len(p) != []int{n / 3, n - n/3, n}[i] {
					t.Errorf("part %d has %d bytes", i, len(p))
				}
			}
			if parts[3] != nil || len(parts[4]) != len(whole) || !bytes.Equal(whole, was) {
				t.Errorf("%d bytes: what was handed in is %x", n, whole)
			}
		}
	}
}

// P6.5: texts of a change stay, and so does the room behind them, which doesn't count.
func TestTextsStay(t *testing.T) {
	for n := range 9 {
		for k := range 9 {
			for _, behind := range []byte{0, 1, 255} {
				from := append(text(n), bytes.Repeat([]byte{behind}, 9)...)
				to := append(bytes.Repeat([]byte{7}, k), bytes.Repeat([]byte{behind}, 9)...)
				was, other := slices.Clone(from), slices.Clone(to)
				checkChanged(t, 0x1234, from[:n], to[:k], changed(0x1234, was[:n], other[:k]))
				if !bytes.Equal(from, was) || !bytes.Equal(to, other) {
					t.Errorf("what was handed in is %x and %x", from, to)
				}
			}
		}
	}
}

// P6.5: nothing is kept of what was handed in: the same bytes, overwritten, are other ones, and the first ones again what they were.
func TestNothingIsKept(t *testing.T) {
	for n := 1; n < 20; n++ {
		b := text(n)
		was, sum, by := slices.Clone(b), Sum(b), Changed(5, b, nil)
		spoil(b)
		checkSum(t, told(b), b)
		checkChanged(t, 5, b, nil, changed(5, b, nil))
		spoil(b)
		checkSum(t, sum, was)
		checkSum(t, sum, b)
		checkChanged(t, 5, b, nil, by)
	}
}

// P6.5: pseudo headers are new memory, with the room behind them.
func TestPseudoIsNew(t *testing.T) {
	for _, six := range []bool{true, false} {
		a, b := api.Addr{Six: six, B: [16]byte{1, 2, 3, 4}}, api.Addr{Six: six, B: [16]byte{5, 6, 7, 8}}
		first, second := Pseudo(a, b, 6, 20), Pseudo(a, b, 6, 20)
		want := slices.Clone(second)
		spoil(first)
		third := Pseudo(a, b, 6, 20)
		if !bytes.Equal(second, want) || !bytes.Equal(third, want) {
			t.Errorf("six %v: %x and %x, not %x", six, second, third, want)
		}
		if a.B != [16]byte{1, 2, 3, 4} || b.B != [16]byte{5, 6, 7, 8} {
			t.Errorf("six %v: the addresses are %v and %v", six, a, b)
		}
	}
}
