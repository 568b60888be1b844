package four

import (
	"bytes"
	"encoding/binary"
	"encoding/hex"
	"math"
	"slices"
	"strings"
	"testing"

	"wayleave/api"
)

// known is the bytes that the text tells in hexadecimal.
func known(s string) []byte {
	b, err := hex.DecodeString(strings.ReplaceAll(s, " ", ""))
	if err != nil {
		panic(err)
	}
	return b
}

// example is the chapter's header.
func example() []byte { return known("45 00 00 73 00 00 40 00 40 11 b8 61 c0 a8 00 01 c0 a8 00 c7") }

// ipv4 is an address of IPv4.
func ipv4(a, b, c, d byte) api.Addr { return api.Addr{B: [16]byte{a, b, c, d}} }

// exampleRead is what the chapter's header is read as.
func exampleRead() api.Four {
	return api.Four{Head: 20, Total: 115, Keep: true, Ttl: 64, Proto: 17, Src: ipv4(192, 168, 0, 1), Dst: ipv4(192, 168, 0, 199)}
}

// ring is the words of b (of an even length), added in a ring: as a rest by 65535, which is 65535 where it would be 0.
func ring(b []byte) int {
	sum := 0
	for word := range slices.Chunk(b, 2) {
		sum += int(word[0])*256 + int(word[1])
	}
	if sum == 0 {
		return 0
	}
	return (sum-1)%65535 + 1
}

// summed is b with the right checksum of a header of so many bytes: of 20 at least, and as far as b goes.
func summed(b []byte, head int) []byte {
	b = slices.Clone(b)
	b[10], b[11] = 0, 0
	words := b[:min(max(head, 20), len(b))]
	if len(words)%2 == 1 {
		words = slices.Concat(words, []byte{0})
	}
	binary.BigEndian.PutUint16(b[10:], uint16(65535-ring(words)))
	return b
}

// packet is one whose header tells of head bytes and of total, with the right checksum, of n bytes in all.
func packet(head, total, n int) []byte {
	b := slices.Concat(example(), text(n))[:n]
	b[0] = byte(0x40 + head/4)
	binary.BigEndian.PutUint16(b[2:], uint16(total))
	return summed(b, head)
}

// text is n bytes of which those near to each other differ.
func text(n int) []byte {
	b := make([]byte, n)
	for i := range b {
		b[i] = byte(i*i*7 + i*31 + i>>3 + 5)
	}
	return b
}

// changed is b with other bytes from one place on, and with the right checksum of its header of 20 bytes.
func changed(b []byte, at int, to ...byte) []byte {
	b = slices.Clone(b)
	copy(b[at:], to)
	return summed(b, 20)
}

// short is b, or the beginning of it where it is long.
func short(b []byte) []byte { return b[:min(len(b), 64)] }

// checkRead holds what Read answers against want and e.
func checkRead(t *testing.T, b []byte, want api.Four, e api.Errno) {
	t.Helper()
	if h, err := Read(b); err != e || h != want {
		t.Errorf("Read(%x), of %d bytes: %v, %d, not %v, %d", short(b), len(b), h, err, want, e)
	}
}

// checkRefused holds what Read answers against an error.
func checkRefused(t *testing.T, b []byte, e api.Errno) {
	t.Helper()
	checkRead(t, b, api.Four{}, e)
}

// checkPut holds what Put answers against want and e.
func checkPut(t *testing.T, h api.Four, want []byte, e api.Errno) {
	t.Helper()
	if b, err := Put(h); err != e || !bytes.Equal(b, want) {
		t.Errorf("Put(%v): %x, %d, not %x, %d", h, b, err, want, e)
	}
}

// checkNotPut holds what Put answers against ErrArg.
func checkNotPut(t *testing.T, h api.Four) {
	t.Helper()
	checkPut(t, h, nil, api.ErrArg)
}

// laid is the header's bytes, by the words, in numbers of the document's own.
func laid(h api.Four) []byte {
	b := []byte{0x45, byte(h.Tos), byte(h.Total / 256), byte(h.Total % 256), byte(h.Id / 256), byte(h.Id % 256), 0, 0, byte(h.Ttl), byte(h.Proto), 0, 0}
	if h.Keep {
		b[6] = 64
	}
	return summed(slices.Concat(b, h.Src.B[:4], h.Dst.B[:4]), 20)
}

// told is what Read is to answer, by the words and the order of the chapter.
func told(b []byte) (api.Four, api.Errno) {
	if len(b) < 20 {
		return api.Four{}, api.ErrEnd
	}
	version, head := int(b[0])/16, int(b[0])%16*4
	if version != 4 || head < 20 {
		return api.Four{}, api.ErrForm
	}
	if head > len(b) {
		return api.Four{}, api.ErrEnd
	}
	total := int(b[2])*256 + int(b[3])
	if total < head {
		return api.Four{}, api.ErrForm
	}
	if total > len(b) {
		return api.Four{}, api.ErrEnd
	}
	if ring(b[:head]) != 65535 {
		return api.Four{}, api.ErrSum
	}
	return api.Four{
		Head: head, Total: total, Tos: int(b[1]), Id: int(b[4])*256 + int(b[5]),
		Keep: b[6]/64%2 == 1, Frag: b[6]/32%2 == 1 || b[6]%32 != 0 || b[7] != 0,
		Ttl: int(b[8]), Proto: int(b[9]),
		Src: ipv4(b[12], b[13], b[14], b[15]), Dst: ipv4(b[16], b[17], b[18], b[19]),
	}, api.OK
}

// P8.1: headers that are known; the chapter's example is the first one.
func TestReadKnown(t *testing.T) {
	for _, x := range []struct {
		head string
		n    int // how many bytes there are behind
		want api.Four
		e    api.Errno
	}{
		{"45 00 00 73 00 00 40 00 40 11 b8 61 c0 a8 00 01 c0 a8 00 c7", 95, exampleRead(), api.OK},
		{"45 00 00 73 00 00 40 00 40 11 b8 61 c0 a8 00 01 c0 a8 00 c7", 94, api.Four{}, api.ErrEnd},
		{"45 00 00 3c 1c 46 40 00 40 06 b1 e6 ac 10 0a 63 ac 10 0a 0c", 40, api.Four{Head: 20, Total: 60, Id: 0x1c46, Keep: true, Ttl: 64, Proto: 6, Src: ipv4(172, 16, 10, 99), Dst: ipv4(172, 16, 10, 12)}, api.OK},
		{"46 c0 00 28 00 00 40 00 01 02 42 47 c0 a8 01 0a e0 00 00 16 94 04 00 00", 16, api.Four{Head: 24, Total: 40, Tos: 192, Keep: true, Ttl: 1, Proto: 2, Src: ipv4(192, 168, 1, 10), Dst: ipv4(224, 0, 0, 22)}, api.OK},
		{"45 10 ff ff 12 34 00 00 00 ff a7 bc 00 00 00 00 ff ff ff ff", 65515, api.Four{Head: 20, Total: 65535, Tos: 16, Id: 0x1234, Proto: 255, Dst: ipv4(255, 255, 255, 255)}, api.OK},
		{"45 00 05 dc ab cd 20 00 3f 11 96 41 0a 00 00 01 0a 00 00 02", 1480, api.Four{Head: 20, Total: 1500, Id: 0xabcd, Frag: true, Ttl: 63, Proto: 17, Src: ipv4(10, 0, 0, 1), Dst: ipv4(10, 0, 0, 2)}, api.OK},
		{"45 00 00 14 ab cd 00 b9 3f 11 bb 50 0a 00 00 01 0a 00 00 02", 0, api.Four{Head: 20, Total: 20, Id: 0xabcd, Frag: true, Ttl: 63, Proto: 17, Src: ipv4(10, 0, 0, 1), Dst: ipv4(10, 0, 0, 2)}, api.OK},
		{"4f 00 00 3c 00 00 00 00 00 01 9e ab 7f 00 00 01 7f 00 00 01" + strings.Repeat("01", 40), 0, api.Four{Head: 60, Total: 60, Proto: 1, Src: ipv4(127, 0, 0, 1), Dst: ipv4(127, 0, 0, 1)}, api.OK},
		{"45 00 00 73 00 00 40 00 40 11 b8 62 c0 a8 00 01 c0 a8 00 c7", 95, api.Four{}, api.ErrSum},
		{"60 00 00 00 00 08 11 40 00 00 00 00 00 00 00 00 00 00 00 00", 95, api.Four{}, api.ErrForm},
	} {
		checkRead(t, slices.Concat(known(x.head), make([]byte, x.n)), x.want, x.e)
	}
}

// P8.1: no bytes, and as many as are too few, whatever they are, with room behind them and without.
func TestReadFew(t *testing.T) {
	checkRefused(t, nil, api.ErrEnd)
	checkRefused(t, []byte{}, api.ErrEnd)
	for n := range 20 {
		for _, b := range [][]byte{packet(20, 20, 20), packet(60, 60, 60), make([]byte, 40), bytes.Repeat([]byte{255}, 40), bytes.Repeat([]byte{0x44}, 40)} {
			checkRefused(t, b[:n], api.ErrEnd)
			checkRefused(t, b[:n:n], api.ErrEnd)
		}
	}
	want := exampleRead()
	want.Total = 20
	checkRead(t, packet(20, 20, 20), want, api.OK)
}

// P8.1: each value of the first four bits, and each length of the header that can be told: with no more bytes than need be, with as many as it tells, with one fewer and with more.
func TestReadForm(t *testing.T) {
	for first := range 256 {
		version, head := first/16, first%16*4
		for _, n := range []int{20, head - 1, head, head + 1, 61, 200} {
			if n < 20 {
				continue
			}
			b := packet(head, head, n)
			b[0] = byte(first)
			b = summed(b, head)
			want, e := exampleRead(), api.OK
			want.Head, want.Total = head, head
			switch {
			case version != 4 || head < 20:
				want, e = api.Four{}, api.ErrForm
			case n < head:
				want, e = api.Four{}, api.ErrEnd
			}
			checkRead(t, b, want, e)
		}
	}
}

// P8.1: each length of a header, with that many bytes, and cut at each place ahead of its end.
func TestReadHeadCut(t *testing.T) {
	for head := 20; head <= 60; head += 4 {
		b := packet(head, head, head)
		want := exampleRead()
		want.Head, want.Total = head, head
		checkRead(t, b, want, api.OK)
		for n := range head {
			checkRefused(t, b[:n], api.ErrEnd)
			checkRefused(t, b[:n:n], api.ErrEnd)
		}
	}
}

// P8.1: each Total, of headers of all lengths: less than the header, just it, just the bytes there are, and more.
func TestReadTotal(t *testing.T) {
	for head := 20; head <= 60; head += 4 {
		for _, n := range []int{head, head + 1, 61, 100, 300} {
			for total := range 400 {
				want, e := exampleRead(), api.OK
				want.Head, want.Total = head, total
				if total < head {
					want, e = api.Four{}, api.ErrForm
				} else if total > n {
					want, e = api.Four{}, api.ErrEnd
				}
				checkRead(t, packet(head, total, n), want, e)
			}
			checkRefused(t, packet(head, 65535, n), api.ErrEnd)
			checkRefused(t, packet(head, 256, 255), api.ErrEnd)
		}
	}
	want := exampleRead()
	want.Total = 65535
	checkRead(t, packet(20, 65535, 65535), want, api.OK)
	checkRead(t, packet(20, 65535, 65536), want, api.OK)
	checkRefused(t, packet(20, 65535, 65534), api.ErrEnd)
	checkRefused(t, packet(20, 0, 65536+20), api.ErrForm)
}

// P8.1: bytes behind the packet, none of them its own, and none.
func TestReadBehind(t *testing.T) {
	for head := 20; head <= 60; head += 4 {
		for _, total := range []int{head, head + 1, head + 2, head + 95} {
			want := exampleRead()
			want.Head, want.Total = head, total
			b := packet(head, total, total)
			checkRead(t, b, want, api.OK)
			for _, tail := range [][]byte{{0}, {1}, {255, 255, 255}, example(), text(46), text(1500)} {
				checkRead(t, slices.Concat(b, tail), want, api.OK)
			}
			for i := head; i < total; i++ {
				b[i] ^= 255
			}
			checkRead(t, b, want, api.OK)
		}
	}
}

// faulty are bytes with a set of faults, numbered as they are told: 0 too few bytes, 1 another version, 2 a header of fewer than 20 bytes, 3 one of more than there are, 4 Total less than the header, 5 more than there are, 6 a wrong checksum. Of 2 and 3, and of 4 and 5, no bytes have both: they have the first one of the set.
func faulty(set int) []byte {
	has := func(k int) bool { return set>>k&1 == 1 }
	version, head, total := 4, 24, 30
	if has(2) {
		head = 16
	} else if has(3) {
		head = 44
	}
	if has(4) {
		total = head - 1
	} else if has(5) {
		total = 47
	}
	if has(1) {
		version = 6
	}
	b := packet(head, total, 40)
	b[0] = byte(version*16 + head/4)
	b = summed(b, head)
	if has(6) {
		b[11] ^= 1
	}
	if has(0) {
		return b[:19]
	}
	return b
}

// P8.1: each set of faults: the first one is told.
func TestReadOrder(t *testing.T) {
	es := []api.Errno{api.ErrEnd, api.ErrForm, api.ErrForm, api.ErrEnd, api.ErrForm, api.ErrEnd, api.ErrSum}
	for set := 1; set < 1<<len(es); set++ {
		first := 0
		for set>>first&1 == 0 {
			first++
		}
		checkRefused(t, faulty(set), es[first])
	}
	if h, e := Read(faulty(0)); e != api.OK || h.Head != 24 || h.Total != 30 {
		t.Error(h, e)
	}
}

// P8.1: a checksum that is wrong in one bit, and one other bit of the header that is wrong, in headers of all lengths.
func TestReadSum(t *testing.T) {
	for head := 20; head <= 60; head += 4 {
		b := packet(head, head+7, head+9)
		for bit := range 8 * head {
			x := slices.Clone(b)
			x[bit/8] ^= 1 << (bit % 8)
			_, e := told(x)
			checkRefused(t, x, e)
			if at := bit / 8; at == 1 || at >= 4 {
				checkRefused(t, x, api.ErrSum)
			}
		}
	}
}

// P8.1: each value of the checksum's place: one is right, and, where that is 0 in a ring, two.
func TestReadEachSum(t *testing.T) {
	for _, id := range []int{0, 0xb861} {
		b := packet(20, 115, 115)
		binary.BigEndian.PutUint16(b[4:], uint16(id))
		for n := range 1 << 16 {
			binary.BigEndian.PutUint16(b[10:], uint16(n))
			want, e := told(b)
			checkRead(t, b, want, e)
			if right := n+id == 0xb861 || n == 0xffff && id == 0xb861; right != (e == api.OK) {
				t.Errorf("the checksum %x, with %x as Id: %d", n, id, e)
			}
		}
	}
}

// P8.1: what is more in a header counts for nothing, whatever it is, but for the checksum.
func TestReadMore(t *testing.T) {
	c := chance(3)
	for head := 24; head <= 60; head += 4 {
		want := exampleRead()
		want.Head, want.Total = head, head+3
		b := packet(head, head+3, head+3)
		for _, x := range []byte{0, 1, 7, 0x45, 0x94, 255} {
			copy(b[20:head], bytes.Repeat([]byte{x}, 40))
			checkRead(t, summed(b, head), want, api.OK)
		}
		for range 1000 {
			for i := 20; i < head; i++ {
				b[i] = byte(c.below(256))
			}
			checkRead(t, summed(b, head), want, api.OK)
			bad := summed(b, head)
			bad[20+c.below(head-20)] ^= 1 << c.below(8)
			checkRefused(t, bad, api.ErrSum)
		}
	}
}

// P8.1: the bit that counts for nothing, that of Keep, that of more fragments, and the fragment's place 0, 1 and its greatest: each alone and together.
func TestReadBits(t *testing.T) {
	for i := range 8 {
		for _, place := range []int{0, 1, 2, 255, 256, 4096, 8191} {
			want := exampleRead()
			want.Keep, want.Frag = i>>1&1 == 1, i&1 == 1 || place > 0
			n := i*8192 + place
			checkRead(t, changed(packet(20, 115, 115), 6, byte(n>>8), byte(n)), want, api.OK)
		}
	}
}

// P8.1: each number in the place of the bits.
func TestReadEachBits(t *testing.T) {
	b := packet(20, 115, 115)
	for n := range 1 << 16 {
		want := exampleRead()
		want.Keep, want.Frag = n/16384%2 == 1, n%16384 != 0
		checkRead(t, changed(b, 6, byte(n>>8), byte(n)), want, api.OK)
	}
}

// P8.1: each value of each byte of a header that has no number of the packet's lengths.
func TestReadEachByte(t *testing.T) {
	b := packet(20, 115, 115)
	for n := range 256 {
		x := byte(n)
		for at, set := range map[int]func(h *api.Four){
			1: func(h *api.Four) { h.Tos = n }, 4: func(h *api.Four) { h.Id = 256 * n }, 5: func(h *api.Four) { h.Id = n },
			8: func(h *api.Four) { h.Ttl = n }, 9: func(h *api.Four) { h.Proto = n },
			12: func(h *api.Four) { h.Src.B[0] = x }, 13: func(h *api.Four) { h.Src.B[1] = x }, 14: func(h *api.Four) { h.Src.B[2] = x }, 15: func(h *api.Four) { h.Src.B[3] = x },
			16: func(h *api.Four) { h.Dst.B[0] = x }, 17: func(h *api.Four) { h.Dst.B[1] = x }, 18: func(h *api.Four) { h.Dst.B[2] = x }, 19: func(h *api.Four) { h.Dst.B[3] = x },
		} {
			want := exampleRead()
			set(&want)
			checkRead(t, changed(b, at, x), want, api.OK)
		}
	}
}

// P8.1: all numbers at 0, and all at their greatest.
func TestReadEdges(t *testing.T) {
	none := make([]byte, 20)
	none[0], none[3] = 0x45, 20
	checkRead(t, summed(none, 20), api.Four{Head: 20, Total: 20}, api.OK)
	all := bytes.Repeat([]byte{255}, 65535)
	all[0] = 0x4f
	top := ipv4(255, 255, 255, 255)
	checkRead(t, summed(all, 60), api.Four{Head: 60, Total: 65535, Tos: 255, Id: 65535, Frag: true, Keep: true, Ttl: 255, Proto: 255, Src: top, Dst: top}, api.OK)
}

// chance is a row of numbers that looks like chance, and is the same each time.
type chance uint64

func (c *chance) below(n int) int {
	*c = *c*6364136223846793005 + 1442695040888963407
	return int(uint64(*c>>33) % uint64(n))
}

// some are up to 90 bytes, of which most begin with something like a header, often with the right checksum.
func (c *chance) some() []byte {
	b := make([]byte, c.below(91))
	for i := range b {
		b[i] = byte(c.below(256))
	}
	if len(b) < 20 || c.below(20) == 0 {
		return b
	}
	b[0] = byte(0x40 + c.below(16))
	if c.below(10) == 0 {
		b[0] = byte(c.below(256))
	}
	b[2], b[3] = 0, byte(len(b)+10-c.below(40))
	if c.below(5) > 0 {
		b = summed(b, int(b[0])%16*4)
	}
	return b
}

// P8.1: bytes of all kinds, held against the words.
func TestReadByWords(t *testing.T) {
	c, fine := chance(7), 0
	for range 200000 {
		b := c.some()
		h, e := told(b)
		checkRead(t, b, h, e)
		if e == api.OK {
			fine++
		}
	}
	if fine < 10000 {
		t.Error("few are fine:", fine)
	}
}

// P8.2: headers whose bytes are known; the chapter's example is the first one.
func TestPutKnown(t *testing.T) {
	checkPut(t, exampleRead(), example(), api.OK)
	checkPut(t, api.Four{Head: 20, Total: 60, Id: 0x1c46, Keep: true, Ttl: 64, Proto: 6, Src: ipv4(172, 16, 10, 99), Dst: ipv4(172, 16, 10, 12)}, known("45 00 00 3c 1c 46 40 00 40 06 b1 e6 ac 10 0a 63 ac 10 0a 0c"), api.OK)
	checkPut(t, api.Four{Head: 20, Total: 65535, Tos: 16, Id: 0x1234, Proto: 255, Dst: ipv4(255, 255, 255, 255)}, known("45 10 ff ff 12 34 00 00 00 ff a7 bc 00 00 00 00 ff ff ff ff"), api.OK)
	checkPut(t, api.Four{Head: 20, Total: 20}, known("45 00 00 14 00 00 00 00 00 00 ba eb 00 00 00 00 00 00 00 00"), api.OK)
	// Words that add up to 65535 in a ring: a checksum of 0.
	checkPut(t, api.Four{Head: 20, Total: 115, Id: 0xb861, Keep: true, Ttl: 64, Proto: 17, Src: ipv4(192, 168, 0, 1), Dst: ipv4(192, 168, 0, 199)}, known("45 00 00 73 b8 61 40 00 40 11 00 00 c0 a8 00 01 c0 a8 00 c7"), api.OK)
	checkNotPut(t, api.Four{})
}

// headers are such as may be laid: each number 0, its greatest and others, with Keep and without.
func headers() []api.Four {
	var l []api.Four
	addrs := []api.Addr{{}, ipv4(1, 2, 3, 4), ipv4(255, 255, 255, 255), ipv4(0, 0, 0, 1), ipv4(128, 0, 0, 0)}
	for i, total := range []int{20, 21, 28, 115, 255, 256, 1500, 32768, 65534, 65535} {
		for j, id := range []int{0, 1, 255, 256, 0x1234, 65535} {
			for k, small := range []int{0, 1, 6, 17, 64, 127, 128, 255} {
				src, dst := addrs[(i+j)%5], addrs[(j+k)%5]
				l = append(l,
					api.Four{Head: 20, Total: total, Tos: small, Id: id, Ttl: 255 - small, Proto: 17, Src: src, Dst: dst},
					api.Four{Head: 20, Total: total, Tos: 255 - small, Id: id, Keep: true, Ttl: 64, Proto: small, Src: dst, Dst: src})
			}
		}
	}
	return l
}

// P8.2: headers of all kinds.
func TestPut(t *testing.T) {
	for _, h := range headers() {
		checkPut(t, h, laid(h), api.OK)
	}
}

// P8.2: each number that may be.
func TestPutEachNumber(t *testing.T) {
	for n := range 1 << 16 {
		h := exampleRead()
		h.Id = n
		checkPut(t, h, laid(h), api.OK)
		h = exampleRead()
		h.Total = n
		if n < 20 {
			checkNotPut(t, h)
		} else {
			checkPut(t, h, laid(h), api.OK)
		}
	}
	for n := range 256 {
		h := exampleRead()
		h.Tos = n
		checkPut(t, h, laid(h), api.OK)
		h.Ttl, h.Keep = n, false
		checkPut(t, h, laid(h), api.OK)
		h.Proto = n
		checkPut(t, h, laid(h), api.OK)
	}
}

// P8.2: any Head but 20, those among them that could be told, and such whose last bits are those of 20.
func TestPutHead(t *testing.T) {
	for n := -300; n <= 300; n++ {
		h := exampleRead()
		h.Head = n
		if n != 20 {
			checkNotPut(t, h)
		}
	}
	for _, n := range []int{20 + 1<<8, 20 + 1<<16, 20 + 1<<32, 20 - 1<<32, math.MaxInt, math.MinInt} {
		h := exampleRead()
		h.Head = n
		checkNotPut(t, h)
	}
}

// P8.2: each number just without what may be, below 0 too, and such whose last bits may be.
func TestPutBeyond(t *testing.T) {
	far := []int{-1, -2, -255, -256, -65535, -65536, -65536 + 20, 65536, 65537, 65536 + 64, 65536 + 115, 1<<32 + 64, 1<<32 + 115, -1<<32 + 64, math.MaxInt32, math.MinInt32, math.MaxInt, math.MinInt}
	for _, n := range far {
		for _, set := range []func(h *api.Four){
			func(h *api.Four) { h.Total = n }, func(h *api.Four) { h.Id = n },
			func(h *api.Four) { h.Tos = n }, func(h *api.Four) { h.Ttl = n }, func(h *api.Four) { h.Proto = n },
		} {
			h := exampleRead()
			set(&h)
			checkNotPut(t, h)
		}
	}
	for _, n := range []int{256, 257, 256 + 64, 512, 65535} {
		for _, set := range []func(h *api.Four){func(h *api.Four) { h.Tos = n }, func(h *api.Four) { h.Ttl = n }, func(h *api.Four) { h.Proto = n }} {
			h := exampleRead()
			set(&h)
			checkNotPut(t, h)
		}
	}
	for _, n := range []int{0, 1, 19} {
		h := exampleRead()
		h.Total = n
		checkNotPut(t, h)
	}
}

// P8.2: a fragment, with Keep and without.
func TestPutFragment(t *testing.T) {
	for _, h := range headers() {
		h.Frag = true
		checkNotPut(t, h)
	}
}

// P8.2: addresses of IPv6, and such as have something behind the fourth byte: Src, Dst, and both.
func TestPutAddresses(t *testing.T) {
	bad := []api.Addr{{Six: true}, {Six: true, B: [16]byte{1, 2, 3, 4}}, {Six: true, B: [16]byte{15: 1}}, {B: [16]byte{10: 255, 11: 255, 12: 1, 13: 2, 14: 3, 15: 4}}}
	for at := 4; at < 16; at++ {
		for _, x := range []byte{1, 128, 255} {
			a := ipv4(192, 168, 0, 1)
			a.B[at] = x
			bad = append(bad, a)
		}
	}
	for _, a := range bad {
		h := exampleRead()
		h.Src = a
		checkNotPut(t, h)
		h.Dst = a
		checkNotPut(t, h)
		h.Src = ipv4(192, 168, 0, 1)
		checkNotPut(t, h)
	}
}

// P8.3: what is laid is read as it was, of a packet of so many bytes, whatever it has and whatever stands behind.
func TestPutIsRead(t *testing.T) {
	for _, h := range headers() {
		b, e := Put(h)
		if e != api.OK {
			t.Errorf("Put(%v): %d", h, e)
		}
		whole := slices.Concat(b, text(h.Total-20))
		checkRead(t, whole, h, api.OK)
		checkRead(t, slices.Concat(whole, []byte{255, 0, 7}), h, api.OK)
		checkRead(t, slices.Concat(b, make([]byte, h.Total-20)), h, api.OK)
		checkRefused(t, whole[:h.Total-1], api.ErrEnd)
	}
}

// P8.3: what is read, of a header of 20 bytes that is no fragment, is laid to what is read as the same.
func TestReadIsPut(t *testing.T) {
	c := chance(11)
	for range 50000 {
		b := c.some()
		if len(b) < 20 {
			continue
		}
		b[0], b[6], b[7] = 0x45, b[6]&0xc0, 0
		if h, e := Read(summed(b, 20)); e == api.OK {
			checkPut(t, h, laid(h), api.OK)
			checkRead(t, slices.Concat(laid(h), b[20:]), h, api.OK)
		}
	}
}

// P8.3: one byte of a laid header changed, each byte, to each value: another header, or refused.
func TestOneByteChanged(t *testing.T) {
	for i, h := range headers() {
		if i%23 != 0 && i > 10 {
			continue
		}
		b, _ := Put(h)
		whole := slices.Concat(b, text(h.Total-20), bytes.Repeat([]byte{9}, 40))
		for at := range b {
			was := whole[at]
			for n := range 256 {
				whole[at] = byte(n)
				got, e := Read(whole)
				if same := byte(n) == was; same != (e == api.OK && got == h) {
					t.Errorf("%v with %d as byte %d: %v, %d", h, n, at, got, e)
				}
				want, err := told(whole)
				if got != want || e != err {
					t.Errorf("%v with %d as byte %d: %v, %d, not %v, %d", h, n, at, got, e, want, err)
				}
			}
			whole[at] = was
		}
	}
}

// P8.3: a laid header whose first byte tells of a longer one, where what is behind makes up for it: another header.
func TestFirstByteChanged(t *testing.T) {
	b, _ := Put(exampleRead())
	whole := slices.Concat(b, []byte{0xfe, 0xff}, make([]byte, 93))
	checkRead(t, whole, exampleRead(), api.OK)
	whole[0]++
	want := exampleRead()
	want.Head = 24
	checkRead(t, whole, want, api.OK)
}

// spoil overwrites bytes, with all the room behind their length.
func spoil(b []byte) {
	b = b[:cap(b)]
	for i := range b {
		b[i] = ^b[i]
	}
}

// P8.4: what is read stays, with the room behind it, which doesn't count and isn't kept.
func TestReadStays(t *testing.T) {
	for _, b := range [][]byte{packet(20, 60, 60), packet(24, 40, 60), packet(60, 60, 60), changed(packet(20, 60, 60), 6, 0xff, 0xff), make([]byte, 60)} {
		for n := range len(b) + 1 {
			whole := slices.Concat(b, text(40))
			was := slices.Clone(whole)
			want, e := told(slices.Clone(whole[:n]))
			got, err := Read(whole[:n])
			if !bytes.Equal(whole, was) {
				t.Errorf("the first %d bytes: what was handed in is %x", n, whole)
			}
			spoil(whole)
			if err != e || got != want {
				t.Errorf("the first %d bytes: %v, %d, not %v, %d", n, got, err, want, e)
			}
		}
	}
}

// P8.4: what is read once doesn't hang on what was read ahead of it.
func TestReadAgain(t *testing.T) {
	b := packet(24, 40, 60)
	want, _ := told(b)
	for range 3 {
		checkRead(t, b, want, api.OK)
		checkRead(t, slices.Concat(example(), make([]byte, 95)), exampleRead(), api.OK)
		checkRefused(t, b[:39], api.ErrEnd)
	}
}

// P8.4: the bytes of a header are new memory, with the room behind them.
func TestPutIsNew(t *testing.T) {
	for _, h := range headers() {
		want := laid(h)
		first, _ := Put(h)
		second, _ := Put(h)
		spoil(first)
		checkPut(t, h, want, api.OK)
		if !bytes.Equal(second, want) {
			t.Errorf("%v: %x, not %x", h, second, want)
		}
	}
}
