package sip_test

import (
	"encoding/hex"
	"slices"
	"strings"
	"testing"

	"wayleave/api"
	"wayleave/sip"
)

// known is the bytes that the text tells in hexadecimal.
func known(s string) []byte {
	b, err := hex.DecodeString(strings.ReplaceAll(s, " ", ""))
	if err != nil {
		panic(err)
	}
	return b
}

// text is n bytes of which those near to each other differ.
func text(n int) []byte {
	b := make([]byte, n)
	for i := range b {
		b[i] = byte(i*i*7 + i*31 + i>>3 + 5)
	}
	return b
}

// upward is the bytes 0, 1, 2 and so on, n of them.
func upward(n int) []byte {
	b := make([]byte, n)
	for i := range b {
		b[i] = byte(i)
	}
	return b
}

// Keys: of bytes 0, of bytes 255, and such whose bytes are unlike.
func noKey() [16]byte   { return [16]byte{} }
func fullKey() [16]byte { return [16]byte(slices.Repeat([]byte{255}, 16)) }
func upKey() [16]byte   { return [16]byte(upward(16)) }
func otherKey() [16]byte {
	return [16]byte(known("f0 e1 d2 c3 b4 a5 96 87 78 69 5a 4b 3c 2d 1e 0f"))
}

func keys() [][16]byte { return [][16]byte{noKey(), fullKey(), upKey(), otherKey()} }

// short is b, or the beginning of it where it is long.
func short(b []byte) []byte { return b[:min(len(b), 64)] }

// chance are numbers that look like such by chance, but are the same each time.
type chance uint64

func (c *chance) next() uint64 {
	*c = *c*6364136223846793005 + 1442695040888963407
	n := uint64(*c)
	return (n ^ n>>33) * 0xff51afd7ed558ccd
}

func (c *chance) bytes(n int) []byte {
	b := make([]byte, n)
	for i := range b {
		b[i] = byte(c.next() >> 20)
	}
	return b
}

func (c *chance) addr(six bool) api.Addr {
	if six {
		return api.Addr{Six: true, B: [16]byte(c.bytes(16))}
	}
	a := api.Addr{}
	copy(a.B[:], c.bytes(4))
	return a
}

func (c *chance) tuple() api.Tuple {
	six := c.next()%2 == 0
	return api.Tuple{Src: c.addr(six), Dst: c.addr(six), Proto: int(c.next() % 256), Sport: int(c.next() % 65536), Dport: int(c.next() % 65536)}
}

// lowFirst is the number of eight bytes, the lowest one first.
func lowFirst(b []byte) uint64 {
	n, by := uint64(0), uint64(1)
	for _, x := range b[:8] {
		n += uint64(x) * by
		by *= 256
	}
	return n
}

// turnedBy is the word whose bits are moved n places up, one by one, with what falls off coming in below.
func turnedBy(w uint64, n int) uint64 {
	for range n {
		w = w*2 + w/0x8000000000000000
	}
	return w
}

// toldRound is a round by the chapter's words.
func toldRound(a, b, c, d uint64) (uint64, uint64, uint64, uint64) {
	a = a + b
	b = turnedBy(b, 13)
	b = b ^ a
	a = turnedBy(a, 32)
	c = c + d
	d = turnedBy(d, 16)
	d = d ^ c
	a = a + d
	d = turnedBy(d, 21)
	d = d ^ a
	c = c + b
	b = turnedBy(b, 17)
	b = b ^ c
	c = turnedBy(c, 32)
	return a, b, c, d
}

// told is the hash by the chapter's words.
func told(key [16]byte, bytes []byte) uint64 {
	k, l := lowFirst(key[:8]), lowFirst(key[8:])
	a, b := k^0x736f6d6570736575, l^0x646f72616e646f6d
	c, d := k^0x6c7967656e657261, l^0x7465646279746573
	all := slices.Clone(bytes)
	for len(all)%8 < 7 {
		all = append(all, 0)
	}
	all = append(all, byte(len(bytes)%256))
	for at := 0; at < len(all); at += 8 {
		w := lowFirst(all[at:])
		d ^= w
		a, b, c, d = toldRound(a, b, c, d)
		a, b, c, d = toldRound(a, b, c, d)
		a ^= w
	}
	c ^= 255
	for range 4 {
		a, b, c, d = toldRound(a, b, c, d)
	}
	return a ^ b ^ c ^ d
}

// toldBytes is a tuple's bytes by the chapter's words.
func toldBytes(t api.Tuple) []byte {
	b := make([]byte, 38)
	b[0] = 4
	if t.Src.Six {
		b[0] = 6
	}
	for i := range 16 {
		b[1+i], b[17+i] = t.Src.B[i], t.Dst.B[i]
	}
	b[33] = byte(t.Proto)
	b[34], b[35] = byte(t.Sport/256), byte(t.Sport%256)
	b[36], b[37] = byte(t.Dport/256), byte(t.Dport%256)
	return b
}

// checkHash holds the hash of the bytes, in one part, against the words, and answers it.
func checkHash(t *testing.T, key [16]byte, b []byte) uint64 {
	t.Helper()
	want := told(key, b)
	if h := sip.Of(key, b); h != want {
		t.Fatalf("% x, %d bytes, % x: %x, not %x", key, len(b), short(b), h, want)
	}
	return want
}

// ipv4 is an address of IPv4.
func ipv4(a, b, c, d byte) api.Addr { return api.Addr{B: [16]byte{a, b, c, d}} }

// ipv6 is an address of IPv6.
func ipv6(b []byte) api.Addr { return api.Addr{Six: true, B: [16]byte(b)} }

// fourTuple and sixTuple are tuples whose bytes are unlike.
func fourTuple() api.Tuple {
	return api.Tuple{Src: ipv4(10, 0, 0, 9), Dst: ipv4(5, 6, 7, 8), Proto: api.ProtoTcp, Sport: 0xc001, Dport: 80}
}

func sixTuple() api.Tuple {
	src := ipv6(known("20 01 0d b8 01 02 03 04 05 06 07 08 09 0a 0b 0c"))
	dst := ipv6(known("fe 80 f1 f2 f3 f4 f5 f6 f7 f8 f9 fa fb fc fd ff"))
	return api.Tuple{Src: src, Dst: dst, Proto: api.ProtoTcp, Sport: 0xc001, Dport: 80}
}

// tuples are such of both families, with edges.
func tuples() []api.Tuple {
	l := []api.Tuple{{}, fourTuple(), sixTuple()}
	none, full := ipv6(make([]byte, 16)), ipv6(slices.Repeat([]byte{255}, 16))
	for _, x := range [][2]api.Addr{
		{ipv4(0, 0, 0, 0), ipv4(255, 255, 255, 255)}, {ipv4(255, 255, 255, 255), ipv4(0, 0, 0, 0)}, {ipv4(1, 2, 3, 4), ipv4(1, 2, 3, 4)},
		{none, none}, {full, none}, {none, full}, {full, full}, {ipv6(text(16)), ipv6(upward(16))}, {ipv6(known("01 02 03 04 00 00 00 00 00 00 00 00 00 00 00 00")), none},
	} {
		for _, proto := range []int{0, 1, api.ProtoTcp, api.ProtoUdp, 127, 128, 255} {
			for _, port := range [][2]int{{0, 0}, {0, 65535}, {65535, 0}, {65535, 65535}, {0x0102, 0xfffe}, {0x00ff, 0xff00}, {1, 256}} {
				l = append(l, api.Tuple{Src: x[0], Dst: x[1], Proto: proto, Sport: port[0], Dport: port[1]})
			}
		}
	}
	return l
}
