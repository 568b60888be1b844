package port

import (
	"bytes"
	"encoding/hex"
	"math"
	"slices"
	"strings"
	"testing"

	"wayleave/api"
)

// all is the greatest number of two bytes.
const all = 65535

// known is the bytes that the text tells in hexadecimal.
func known(s string) []byte {
	b, err := hex.DecodeString(strings.ReplaceAll(s, " ", ""))
	if err != nil {
		panic(err)
	}
	return b
}

// ends are two addresses, from one of which a segment goes to the other one.
type ends struct{ src, dst api.Addr }

// fours are two addresses of IPv4, and sixes two of IPv6, of which most bytes are others.
func fours() ends { return ends{ipv4(192, 168, 0, 1), ipv4(192, 168, 0, 199)} }
func sixes() ends {
	return ends{ipv6(known("20 01 0d b8 01 02 03 04 05 06 07 08 09 0a 0b 0c")...), ipv6(known("fe 80 f1 f2 f3 f4 f5 f6 f7 f8 f9 fa fb fc fd ff")...)}
}

func ipv4(a, b, c, d byte) api.Addr { return api.Addr{B: [16]byte{a, b, c, d}} }

func ipv6(b ...byte) api.Addr { return api.Addr{Six: true, B: [16]byte(b)} }

// families are pairs of addresses, those of IPv4 first: among them all bytes 0, all 255, and one address twice.
func families() []ends {
	zero, ones := make([]byte, 16), bytes.Repeat([]byte{255}, 16)
	return []ends{
		fours(), {}, {ipv4(255, 255, 255, 255), ipv4(255, 255, 255, 255)}, {fours().dst, fours().src}, {fours().src, fours().src},
		sixes(), {ipv6(zero...), ipv6(zero...)}, {ipv6(ones...), ipv6(ones...)}, {sixes().dst, sixes().src}, {ipv6(zero...), sixes().dst},
	}
}

// text is n bytes of which those near to each other differ.
func text(n int) []byte {
	b := make([]byte, n)
	for i := range b {
		b[i] = byte(i*i*7 + i*31 + i>>3 + 5)
	}
	return b
}

// two are the bytes of a number, big.
func two(n int) []byte { return []byte{byte(n / 256), byte(n % 256)} }

// udp is a segment of UDP whose header tells of so many bytes, with a load behind.
func udp(total int, load []byte) []byte {
	return slices.Concat(two(4660), two(53), two(total), []byte{0, 0}, load)
}

// tcp is a segment of TCP whose header tells of head bytes, with what is behind its first 20.
func tcp(head int, behind []byte) []byte {
	return slices.Concat(two(80), two(4096), text(8), []byte{byte(head / 4 * 16), api.Ack | api.Syn}, two(500), []byte{0, 0, 0, 0}, behind)
}

// segments are such of both protocols, with an odd and an even number of bytes, short and long.
func segments() []segment {
	l := []segment{}
	for _, n := range []int{0, 1, 2, 3, 4, 7, 8, 40, 41, 255, 256, 999} {
		l = append(l, segment{api.ProtoUdp, udp(8+n, text(n))}, segment{api.ProtoTcp, tcp(20, text(n))})
		l = append(l, segment{api.ProtoUdp, udp(8+n, make([]byte, n))}, segment{api.ProtoTcp, tcp(20, bytes.Repeat([]byte{255}, n))})
	}
	return append(l, segment{api.ProtoTcp, tcp(24, text(4))}, segment{api.ProtoTcp, tcp(60, text(41))})
}

type segment struct {
	proto int
	b     []byte
}

// udpRead and tcpRead are what such segments are read as.
func udpRead(total int) api.Port { return api.Port{Sport: 4660, Dport: 53, Head: 8, Total: total} }
func tcpRead(head, total int) api.Port {
	return api.Port{Sport: 80, Dport: 4096, Flags: api.Ack | api.Syn, Head: head, Total: total}
}

// with is b with other bytes from one place on.
func with(b []byte, at int, to ...byte) []byte {
	b = slices.Clone(b)
	copy(b[at:], to)
	return b
}

// short is b, or the beginning of it where it is long.
func short(b []byte) []byte { return b[:min(len(b), 64)] }

// number is that of the two bytes of b from one place on.
func number(b []byte, at int) int { return int(b[at])*256 + int(b[at+1]) }

// told is what Read is to answer, by the words and the order of the chapter.
func told(proto int, b []byte) (api.Port, api.Errno) {
	if proto == 6 {
		return toldTcp(b)
	}
	if proto == 17 {
		return toldUdp(b)
	}
	return api.Port{}, api.ErrNone
}

func toldTcp(b []byte) (api.Port, api.Errno) {
	if len(b) < 20 {
		return api.Port{}, api.ErrEnd
	}
	head := int(b[12]) / 16 * 4
	if head < 20 {
		return api.Port{}, api.ErrForm
	}
	if head > len(b) {
		return api.Port{}, api.ErrEnd
	}
	return api.Port{Sport: number(b, 0), Dport: number(b, 2), Flags: int(b[13]) % 64, Head: head, Total: len(b)}, api.OK
}

func toldUdp(b []byte) (api.Port, api.Errno) {
	if len(b) < 8 {
		return api.Port{}, api.ErrEnd
	}
	total := number(b, 4)
	if total < 8 {
		return api.Port{}, api.ErrForm
	}
	if total > len(b) {
		return api.Port{}, api.ErrEnd
	}
	return api.Port{Sport: number(b, 0), Dport: number(b, 2), Head: 8, Total: total}, api.OK
}

// place is at which byte the checksum begins.
func place(proto int) int { return map[int]int{6: 16, 17: 6}[proto] }

// ring is all words of b, added in a ring: as a rest by 65535, which is 65535 where it would be 0.
func ring(b []byte) int {
	sum := 0
	for i, x := range b {
		sum += int(x) * (1 + 255*(1-i%2))
	}
	if sum == 0 {
		return 0
	}
	return (sum-1)%all + 1
}

// pseudo is the pseudo header of a segment of so many bytes.
func pseudo(a ends, proto, total int) []byte {
	if a.src.Six {
		return slices.Concat(a.src.B[:], a.dst.B[:], []byte{0, 0}, two(total), []byte{0, 0, 0, byte(proto)})
	}
	return slices.Concat(a.src.B[:4], a.dst.B[:4], []byte{0, byte(proto)}, two(total))
}

// own is the segment of which b is the beginning, without what is behind it.
func own(proto int, b []byte) []byte {
	if proto == 17 {
		return b[:number(b, 4)]
	}
	return b
}

// isRight is what Right is to answer, by the words.
func isRight(a ends, proto int, b []byte) bool {
	s := own(proto, b)
	if proto == 17 && number(s, 6) == 0 {
		return !a.src.Six
	}
	return ring(slices.Concat(pseudo(a, proto, len(s)), s)) == all
}

// worked is the checksum of a segment with 0 in its place.
func worked(a ends, proto int, b []byte) int {
	s := with(own(proto, b), place(proto), 0, 0)
	return all - ring(slices.Concat(pseudo(a, proto, len(s)), s))
}

// filled is what Fill is to answer, by the words.
func filled(a ends, proto int, b []byte) []byte {
	sum := worked(a, proto, b)
	if proto == 17 && sum == 0 {
		sum = all
	}
	return with(b, place(proto), two(sum)...)
}

// checkRead holds what Read answers against want and e.
func checkRead(t *testing.T, proto int, b []byte, want api.Port, e api.Errno) {
	t.Helper()
	if p, err := Read(proto, b); err != e || p != want {
		t.Errorf("Read(%d, %x), of %d bytes: %v, %d, not %v, %d", proto, short(b), len(b), p, err, want, e)
	}
}

// checkRefused holds what Read answers against an error.
func checkRefused(t *testing.T, proto int, b []byte, e api.Errno) {
	t.Helper()
	checkRead(t, proto, b, api.Port{}, e)
}

// checkRight holds what Right answers against want.
func checkRight(t *testing.T, a ends, proto int, b []byte, want bool) {
	t.Helper()
	if r := Right(a.src, a.dst, proto, b); r != want {
		t.Errorf("Right(%v, %d, %x), of %d bytes: %v", a, proto, short(b), len(b), r)
	}
}

// checkFill holds what Fill answers against want, which is right.
func checkFill(t *testing.T, a ends, proto int, b, want []byte) {
	t.Helper()
	if f := Fill(a.src, a.dst, proto, b); !bytes.Equal(f, want) {
		t.Errorf("Fill(%v, %d, %x), of %d bytes: %x, not %x", a, proto, short(b), len(b), short(f), short(want))
	}
	checkRight(t, a, proto, want, true)
}

// P10.1: segments that are known; the chapter's example is the first one.
func TestReadKnown(t *testing.T) {
	for _, x := range []struct {
		proto int
		b     string
		want  api.Port
		e     api.Errno
	}{
		{17, "00 01 00 02 00 08 00 00", api.Port{Sport: 1, Dport: 2, Head: 8, Total: 8}, api.OK},
		{17, "a0 8f 26 94 00 0a 14 de 62 62", api.Port{Sport: 41103, Dport: 9876, Head: 8, Total: 10}, api.OK},
		{17, "a0 8f 26 94 00 0a 14 de 62 62 01 02 03", api.Port{Sport: 41103, Dport: 9876, Head: 8, Total: 10}, api.OK},
		{17, "a0 8f 26 94 00 0a 14 de 62", api.Port{}, api.ErrEnd},
		{17, "a0 8f 26 94 00 07 14 de 62", api.Port{}, api.ErrForm},
		{17, "a0 8f 26 94 00 0a 14", api.Port{}, api.ErrEnd},
		{6, "c3 50 01 bb 01 02 03 04 a1 b2 c3 d4 60 18 fa f0 66 af 00 00 01 03 03 07 68 69 21", api.Port{Sport: 50000, Dport: 443, Flags: api.Ack | api.Psh, Head: 24, Total: 27}, api.OK},
		{6, "00 50 10 00 00 00 00 01 00 00 00 02 5f ff 12 d2 00 00 00 00", api.Port{Sport: 80, Dport: 4096, Flags: 63, Head: 20, Total: 20}, api.OK},
		{6, "00 50 10 00 00 00 00 01 00 00 00 02 60 02 12 d2 00 00 00 00", api.Port{}, api.ErrEnd},
		{6, "00 50 10 00 00 00 00 01 00 00 00 02 4f 02 12 d2 00 00 00 00", api.Port{}, api.ErrForm},
		{6, "00 50 10 00 00 00 00 01 00 00 00 02 50 02 12 d2 00 00 00", api.Port{}, api.ErrEnd},
		{1, "08 00 f7 ff 00 00 00 00", api.Port{}, api.ErrNone},
		{0, "", api.Port{}, api.ErrNone},
	} {
		checkRead(t, x.proto, known(x.b), x.want, x.e)
	}
}

// others are numbers of protocols that are neither TCP's nor UDP's, such whose last bits are one's, too.
func others() []int {
	l := []int{math.MinInt, math.MinInt32, math.MaxInt32, math.MaxInt, -6, -17, 6 << 8, 17 << 8}
	for n := -300; n <= 600; n++ {
		if n != 6 && n != 17 {
			l = append(l, n)
		}
	}
	for _, shift := range []int{8, 16, 31, 32, 63} {
		l = append(l, 6+1<<shift, 17+1<<shift, 6-1<<shift, 17-1<<shift)
	}
	return l
}

// P10.1: protocols that are neither TCP's nor UDP's, with bytes and with none, whatever these are.
func TestReadOthers(t *testing.T) {
	for _, proto := range others() {
		for _, b := range [][]byte{nil, {}, {1}, udp(8, nil), udp(8, nil)[:7], udp(7, nil), udp(9, nil), tcp(20, nil), tcp(20, nil)[:19], tcp(16, nil), tcp(24, nil), make([]byte, 80)} {
			checkRefused(t, proto, b, api.ErrNone)
		}
	}
}

// P10.1: no bytes, and as many as are too few, whatever they tell, with room behind them and without.
func TestReadFew(t *testing.T) {
	for _, proto := range []int{6, 17} {
		checkRefused(t, proto, nil, api.ErrEnd)
		checkRefused(t, proto, []byte{}, api.ErrEnd)
		for n := range map[int]int{6: 20, 17: 8}[proto] {
			for _, b := range [][]byte{tcp(20, text(20)), tcp(16, text(20)), udp(8, text(20)), udp(7, text(20)), make([]byte, 40), bytes.Repeat([]byte{255}, 40), text(40)} {
				checkRefused(t, proto, b[:n], api.ErrEnd)
				checkRefused(t, proto, b[:n:n], api.ErrEnd)
			}
		}
	}
	checkRead(t, 6, tcp(20, nil), tcpRead(20, 20), api.OK)
	checkRead(t, 17, udp(8, nil), udpRead(8), api.OK)
}

// P10.1: each value of the byte that tells TCP's header, with as many bytes as it tells, one less and one more, and with others.
func TestReadHead(t *testing.T) {
	for first := range 256 {
		head := first / 16 * 4
		for _, n := range []int{20, 21, head - 1, head, head + 1, 59, 60, 61, 300} {
			b := with(tcp(20, text(300)), 12, byte(first))[:max(n, 20)]
			switch {
			case head < 20:
				checkRefused(t, 6, b, api.ErrForm)
			case head > len(b):
				checkRefused(t, 6, b, api.ErrEnd)
				checkRefused(t, 6, b[:len(b):len(b)], api.ErrEnd)
			default:
				checkRead(t, 6, b, tcpRead(head, len(b)), api.OK)
			}
		}
	}
}

// P10.1: each value of the byte of the flags, of which six bits count, whatever is beside it.
func TestReadFlags(t *testing.T) {
	for n := range 256 {
		for _, beside := range []byte{0x50, 0x51, 0x5f} {
			want := tcpRead(20, 22)
			want.Flags = n & 63
			checkRead(t, 6, with(tcp(20, text(2)), 12, beside, byte(n)), want, api.OK)
		}
	}
	for i, flag := range []int{api.Fin, api.Syn, api.Rst, api.Psh, api.Ack, api.Urg} {
		if p, e := Read(6, with(tcp(20, nil), 13, 1<<i)); e != api.OK || p.Flags != flag {
			t.Errorf("bit %d of the flags: %v, %d", i, p, e)
		}
	}
}

// P10.1: each port, of both protocols.
func TestReadPorts(t *testing.T) {
	for n := range 65536 {
		for _, x := range []struct {
			proto int
			b     []byte
			want  api.Port
		}{{6, tcp(24, text(5)), tcpRead(24, 25)}, {17, udp(9, text(1)), udpRead(9)}} {
			want := x.want
			want.Sport = n
			checkRead(t, x.proto, with(x.b, 0, two(n)...), want, api.OK)
			want.Dport = all - n
			checkRead(t, x.proto, with(x.b, 0, slices.Concat(two(n), two(all-n))...), want, api.OK)
		}
	}
}

// P10.1: each number of bytes that UDP's header can tell: with just as many, one less, one more, and as many as can be.
func TestReadTotal(t *testing.T) {
	b := udp(0, text(66000))
	for total := range 65536 {
		copy(b[4:], two(total))
		if total < 8 {
			for _, n := range []int{8, 9, 20, 66008} {
				checkRefused(t, 17, b[:n], api.ErrForm)
			}
			continue
		}
		checkRefused(t, 17, b[:total-1], api.ErrEnd)
		checkRead(t, 17, b[:total], udpRead(total), api.OK)
		checkRead(t, 17, b[:total:total], udpRead(total), api.OK)
		checkRead(t, 17, b[:total+1], udpRead(total), api.OK)
		checkRead(t, 17, b, udpRead(total), api.OK)
		if total > 8 {
			checkRefused(t, 17, b[:8], api.ErrEnd)
			checkRefused(t, 17, b[:8:8], api.ErrEnd)
		}
	}
}

// P10.1: bytes behind a UDP segment, whatever they are; of TCP they are the segment's own.
func TestReadBehind(t *testing.T) {
	for _, tail := range [][]byte{nil, {0}, {255}, {0, 0, 0}, text(8), udp(8, nil), tcp(20, nil), make([]byte, 1500), text(70000)} {
		for _, n := range []int{0, 1, 12, 13} {
			checkRead(t, 17, udp(8+n, slices.Concat(text(n), tail)), udpRead(8+n), api.OK)
			checkRead(t, 6, tcp(20, slices.Concat(text(n), tail)), tcpRead(20, 20+n+len(tail)), api.OK)
		}
	}
	for _, n := range []int{20, 21, 65534, 65535, 65536, 131072} {
		checkRead(t, 6, tcp(20, text(n-20)), tcpRead(20, n), api.OK)
	}
}

// P10.1: each value of each byte that nothing is told by.
func TestReadIdle(t *testing.T) {
	for n := range 256 {
		x := byte(n)
		for at := 4; at < 30; at++ {
			if at != 12 && at != 13 {
				checkRead(t, 6, with(tcp(28, text(10)), at, x), tcpRead(28, 30), api.OK)
			}
		}
		for at := 6; at < 12; at++ {
			checkRead(t, 17, with(udp(11, text(4)), at, x), udpRead(11), api.OK)
		}
		checkRead(t, 17, with(udp(11, text(4)), 6, x, ^x, x), udpRead(11), api.OK)
	}
}

// P10.1: two faults at once: the first one of the order is told.
func TestReadOrder(t *testing.T) {
	for n := range 256 {
		for few := range 20 {
			checkRefused(t, 6, with(tcp(20, nil), 12, byte(n))[:few], api.ErrEnd)
			checkRefused(t, 18, with(tcp(20, nil), 12, byte(n))[:few], api.ErrNone)
		}
		for few := range 8 {
			checkRefused(t, 17, udp(n, nil)[:few], api.ErrEnd)
			checkRefused(t, 7, udp(n, nil)[:few], api.ErrNone)
		}
		if n < 0x50 {
			checkRefused(t, 6, with(tcp(20, nil), 12, byte(n)), api.ErrForm)
			checkRefused(t, -6, with(tcp(20, nil), 12, byte(n)), api.ErrNone)
		}
		if n < 8 {
			checkRefused(t, 17, udp(n, nil), api.ErrForm)
			checkRefused(t, -17, udp(n, nil), api.ErrNone)
		}
		if n > 8 {
			checkRefused(t, 17, udp(n, nil), api.ErrEnd)
			checkRefused(t, 0, udp(n, nil), api.ErrNone)
		}
	}
}

// chance is a row of numbers that looks like chance, and is the same each time.
type chance uint64

func (c *chance) below(n int) int {
	*c = *c*6364136223846793005 + 1442695040888963407
	return int(uint64(*c>>33) % uint64(n))
}

// some are up to n bytes, many of them 0 or all bits.
func (c *chance) some(n int) []byte {
	b := make([]byte, c.below(n+1))
	for i := range b {
		b[i] = []byte{0, 255, byte(c.below(256)), byte(c.below(256))}[c.below(4)]
	}
	return b
}

// segment is one of either protocol, with bytes of any kind behind it.
func (c *chance) segment() (int, []byte) {
	b := c.some(70)
	if c.below(2) == 0 {
		b = slices.Concat(b, make([]byte, max(8-len(b), 0)))
		return 17, with(b, 4, two(8+c.below(len(b)-7))...)
	}
	b = slices.Concat(b, make([]byte, max(20-len(b), 0)))
	return 6, with(b, 12, byte(5+c.below(min(len(b)/4, 15)-4))<<4|byte(c.below(16)))
}

// P10.1: bytes of all kinds, held against the words.
func TestReadByWords(t *testing.T) {
	c, seen := chance(10), map[api.Errno]int{}
	for i := range 300000 {
		proto, b := []int{6, 17, 6, 17, 1}[c.below(5)], c.some(70)
		switch {
		case i%3 == 0:
			proto, b = c.segment()
		case len(b) > 5 && proto == 17:
			copy(b[4:], two(c.below(80)))
		}
		p, e := told(proto, b)
		checkRead(t, proto, b, p, e)
		seen[e]++
	}
	for _, e := range []api.Errno{api.OK, api.ErrEnd, api.ErrForm, api.ErrNone} {
		if seen[e] < 1000 {
			t.Errorf("%d is told only %d times", e, seen[e])
		}
	}
}

// P10.2: the place of each protocol, and of numbers that are none's.
func TestPlace(t *testing.T) {
	if n := Place(api.ProtoTcp); n != 16 {
		t.Error("TCP:", n)
	}
	if n := Place(api.ProtoUdp); n != 6 {
		t.Error("UDP:", n)
	}
	for _, proto := range others() {
		if n := Place(proto); n != 0 {
			t.Errorf("%d: %d", proto, n)
		}
	}
}

// P10.3: checksums that are known, between addresses of IPv4 and of IPv6.
func TestFillKnown(t *testing.T) {
	for _, x := range []struct {
		a     ends
		proto int
		b     string
		want  string
	}{
		{ends{ipv4(152, 1, 51, 27), ipv4(152, 14, 94, 75)}, 17, "a0 8f 26 94 00 0a 00 00 62 62", "14 de"},
		{fours(), 17, "a0 8f 26 94 00 0a 00 00 62 62", "54 3b"},
		{fours(), 17, "00 01 00 02 00 08 00 00", "7d c2"},
		{fours(), 17, "ff ff 00 35 00 0b 00 00 61 62 63", "b9 27"},
		{fours(), 17, "ff ff 00 35 00 0b ff ff 61 62 63 64 65", "b9 27"},
		{fours(), 6, "00 50 10 00 00 00 00 01 00 00 00 02 50 12 d2 01 00 00 00 00", "4b 65"},
		{fours(), 6, "c3 50 01 bb 01 02 03 04 a1 b2 c3 d4 60 18 fa f0 00 00 00 00 01 03 03 07 68 69 21", "66 af"},
		{fours(), 6, "00 00 ff ff 00 00 00 00 00 00 00 00 50 00 00 00 00 00 00 00", "2d cc"},
		{sixes(), 17, "a0 8f 26 94 00 0a 00 00 62 62", "be 20"},
		{sixes(), 17, "00 01 00 02 00 08 00 00", "e7 a7"},
		{sixes(), 17, "ff ff 00 35 00 0b 00 00 61 62 63", "23 0d"},
		{sixes(), 6, "00 50 10 00 00 00 00 01 00 00 00 02 50 12 d2 01 00 00 00 00", "b5 4a"},
		{sixes(), 6, "c3 50 01 bb 01 02 03 04 a1 b2 c3 d4 60 18 fa f0 12 34 00 00 01 03 03 07 68 69 21", "d0 94"},
		{sixes(), 6, "00 00 ff ff 00 00 00 00 00 00 00 00 50 00 00 00 00 00 00 00", "97 b1"},
	} {
		b := known(x.b)
		checkFill(t, x.a, x.proto, b, with(b, place(x.proto), known(x.want)...))
	}
}

// P10.3: segments of all kinds, between addresses of all kinds, by the words.
func TestFillByWords(t *testing.T) {
	for _, a := range families() {
		for _, s := range segments() {
			checkFill(t, a, s.proto, s.b, filled(a, s.proto, s.b))
			checkRight(t, a, s.proto, s.b, isRight(a, s.proto, s.b))
		}
	}
	c := chance(103)
	for range 50000 {
		proto, b := c.segment()
		a := families()[c.below(len(families()))]
		checkFill(t, a, proto, b, filled(a, proto, b))
		checkRight(t, a, proto, b, isRight(a, proto, b))
	}
}

// P10.3: the longest segments, and such near to them, of an odd and of an even number of bytes.
func TestFillLong(t *testing.T) {
	for _, a := range families() {
		for _, n := range []int{65535, 65534, 32768} {
			for _, tail := range []int{0, 1, 300} {
				b := udp(n, text(n-8+tail))
				checkFill(t, a, 17, b, filled(a, 17, b))
				b = udp(n, bytes.Repeat([]byte{255}, n-8+tail))
				checkFill(t, a, 17, b, filled(a, 17, b))
			}
			for _, load := range [][]byte{text(n - 20), bytes.Repeat([]byte{255}, n-20), make([]byte, n-20)} {
				b := tcp(60, load)
				f := filled(a, 6, b)
				checkFill(t, a, 6, b, f)
				checkRight(t, a, 6, with(f, n-1, f[n-1]^1), false)
			}
		}
	}
}

// P10.3: whatever stands in the checksum's place before it is filled in counts for nothing.
func TestFillWhatever(t *testing.T) {
	for _, a := range []ends{fours(), sixes()} {
		for _, s := range []segment{{17, udp(11, text(5))}, {6, tcp(24, text(5))}} {
			want := filled(a, s.proto, s.b)
			for n := range 65536 {
				checkFill(t, a, s.proto, with(s.b, place(s.proto), two(n)...), want)
			}
		}
	}
}

// P10.3: each checksum that can stand there: the right one, and of UDP between addresses of IPv4 0, but no other one.
func TestRightEachSum(t *testing.T) {
	for _, a := range []ends{fours(), sixes(), {}, {ipv6(make([]byte, 16)...), ipv6(make([]byte, 16)...)}} {
		for _, s := range []segment{{17, udp(10, text(2))}, {17, udp(11, text(5))}, {6, tcp(20, text(3))}, {6, tcp(28, text(8))}} {
			sum := worked(a, s.proto, s.b)
			if sum == 0 || sum == all {
				t.Fatalf("%v: %d", a, sum)
			}
			for n := range 65536 {
				none := n == 0 && s.proto == 17 && !a.src.Six
				checkRight(t, a, s.proto, with(s.b, place(s.proto), two(n)...), n == sum || none)
			}
		}
	}
}

// noSum is a segment with a load whose checksum is worked out as 0.
func noSum(a ends, proto int) []byte {
	b := map[int][]byte{6: tcp(20, make([]byte, 4)), 17: udp(12, make([]byte, 4))}[proto]
	at := len(b) - 2
	return with(b, at, two(worked(a, proto, b))...)
}

// P10.3: a checksum that is worked out as 0: of UDP all bits 1 is put in, of TCP it stays; no other one but these two is right.
func TestFillNought(t *testing.T) {
	for _, a := range families() {
		b := noSum(a, 17)
		if n := worked(a, 17, b); n != 0 {
			t.Fatal("not worked out as 0:", n)
		}
		checkFill(t, a, 17, b, with(b, 6, 255, 255))
		checkFill(t, a, 17, slices.Concat(b, []byte{7}), slices.Concat(with(b, 6, 255, 255), []byte{7}))
		checkRight(t, a, 17, b, !a.src.Six)
		b = noSum(a, 6)
		checkFill(t, a, 6, b, b)
		checkFill(t, a, 6, with(b, 16, 255, 255), b)
		checkRight(t, a, 6, with(b, 16, 255, 255), true)
		for n := 1; n < all; n++ {
			checkRight(t, a, 17, with(noSum(a, 17), 6, two(n)...), false)
			checkRight(t, a, 6, with(b, 16, two(n)...), false)
		}
	}
}

// P10.3: a checksum of 0: of UDP right between addresses of IPv4, whatever the segment has, and between others never; of TCP only where it is the one worked out.
func TestRightNought(t *testing.T) {
	for _, a := range families() {
		for _, s := range segments() {
			b := with(s.b, place(s.proto), 0, 0)
			want := !a.src.Six
			if s.proto == 6 {
				want = worked(a, 6, b) == 0
			}
			checkRight(t, a, s.proto, b, want)
		}
		checkRight(t, a, 17, with(udp(8, nil), 0, 0, 0, 0, 0), !a.src.Six)
		checkRight(t, a, 6, noSum(a, 6), true)
		checkRight(t, a, 6, with(noSum(a, 6), 0, 9), false)
	}
}

// P10.3: one byte of 0 in the place of UDP's checksum doesn't make it 0, nor do bytes of 0 elsewhere.
func TestRightHalf(t *testing.T) {
	for _, a := range []ends{fours(), sixes()} {
		for n := 1; n < 256; n++ {
			for _, place := range [][]byte{{0, byte(n)}, {byte(n), 0}} {
				b := with(udp(12, make([]byte, 4)), 6, place...)
				checkRight(t, a, 17, b, isRight(a, 17, b))
			}
		}
		checkRight(t, a, 17, udp(12, make([]byte, 4)), !a.src.Six)
		checkRight(t, a, 6, with(tcp(20, text(4)), 6, 0, 0), false)
	}
}

// P10.3: bytes behind a UDP segment stay when it is filled in, and count for nothing, whatever they are.
func TestFillBehind(t *testing.T) {
	for _, a := range families() {
		for _, n := range []int{0, 1, 2, 7, 12} {
			b := udp(8+n, text(n))
			f := filled(a, 17, b)
			for _, tail := range [][]byte{{0}, {1}, {255}, {255, 255}, {0, 0, 0}, text(9), text(200), make([]byte, 1500)} {
				checkFill(t, a, 17, slices.Concat(b, tail), slices.Concat(f, tail))
				checkRight(t, a, 17, slices.Concat(f[:7], []byte{f[7] ^ 1}, f[8:], tail), number(f, 6) == 1 && !a.src.Six)
			}
		}
	}
}

// P10.4: what is filled in is right, and with any byte of the segment another one it isn't: but where that makes UDP's checksum 0, between addresses of IPv4.
func TestFilledChanged(t *testing.T) {
	for _, a := range families() {
		for _, s := range []segment{{17, udp(8, nil)}, {17, udp(11, text(6))}, {17, noSum(a, 17)}, {6, tcp(20, nil)}, {6, tcp(24, text(9))}, {6, noSum(a, 6)}} {
			f := Fill(a.src, a.dst, s.proto, s.b)
			checkRight(t, a, s.proto, f, true)
			for at := range own(s.proto, f) {
				for n := range 256 {
					b := with(f, at, byte(n))
					if changesNothing(s.proto, f, b) {
						continue
					}
					none := s.proto == 17 && !a.src.Six && b[6] == 0 && b[7] == 0
					checkRight(t, a, s.proto, b, none)
				}
			}
		}
	}
}

// changesNothing tells whether b is f, or has another length told.
func changesNothing(proto int, f, b []byte) bool {
	if proto == 17 {
		return bytes.Equal(f, b) || !bytes.Equal(f[4:6], b[4:6])
	}
	return bytes.Equal(f, b) || f[12]/16 != b[12]/16
}

// P10.4: a checksum of which one byte is 0: with the other one 0, too, UDP's is right between addresses of IPv4, and else none is.
func TestFilledToNought(t *testing.T) {
	for _, a := range families() {
		for _, s := range []segment{{17, noSum(a, 17)}, {6, noSum(a, 6)}} {
			at, load := place(s.proto), len(s.b)-4
			for n := 1; n < 256; n++ {
				for half := range 2 {
					// As the sum is 0, what is put into the load comes out as the checksum, with all bits turned.
					b := with(s.b, load+half, 255-byte(n))
					b[load+1-half] = 255
					f := Fill(a.src, a.dst, s.proto, b)
					if number(f, at) != n<<(8*(1-half)) {
						t.Fatalf("%v, %d: %x", a, s.proto, f)
					}
					checkRight(t, a, s.proto, f, true)
					checkRight(t, a, s.proto, with(f, at, 0, 0), s.proto == 17 && !a.src.Six)
				}
			}
		}
	}
}

// P10.3, P10.4: either address another one, by one byte: no checksum is right any more but one of UDP that is 0.
func TestOtherAddress(t *testing.T) {
	for _, a := range families() {
		size := 4
		if a.src.Six {
			size = 16
		}
		for _, s := range []segment{{17, udp(11, text(3))}, {17, udp(8, text(5))}, {6, tcp(20, text(3))}, {6, tcp(24, text(8))}} {
			f := filled(a, s.proto, s.b)
			bare := with(f, place(s.proto), 0, 0)
			for at := range size {
				for n := 1; n < 256; n++ {
					x, y := a, a
					x.src.B[at] ^= byte(n)
					y.dst.B[at] ^= byte(n)
					for _, other := range []ends{x, y} {
						checkRight(t, other, s.proto, f, false)
						checkRight(t, other, s.proto, bare, isRight(other, s.proto, bare))
						if n%16 == 1 {
							checkFill(t, other, s.proto, f, filled(other, s.proto, f))
						}
					}
				}
			}
		}
	}
}

// P10.3: the same segment of the other protocol, or of another length, has another checksum.
func TestRightOfItsOwn(t *testing.T) {
	for _, a := range families() {
		// Bytes that are a segment of both protocols.
		b := udp(26, with(text(18), 4, 0x50))
		checkRight(t, a, 17, filled(a, 17, b), true)
		checkRight(t, a, 6, filled(a, 6, b), true)
		checkRight(t, a, 6, filled(a, 17, b), false)
		checkRight(t, a, 17, filled(a, 6, b), isRight(a, 17, filled(a, 6, b)))
		f := filled(a, 6, tcp(20, text(4)))
		for n := 1; n < 20; n++ {
			checkRight(t, a, 6, slices.Concat(f, make([]byte, n)), false)
		}
	}
}

// spoil overwrites bytes, with all the room behind their length.
func spoil(b []byte) {
	b = b[:cap(b)]
	for i := range b {
		b[i] = ^b[i]
	}
}

// P10.5: what is read stays, with the room behind it, which doesn't count and isn't kept.
func TestReadStays(t *testing.T) {
	for _, s := range append(segments(), segment{17, udp(7, text(3))}, segment{17, udp(90, text(3))}, segment{6, tcp(16, text(3))}, segment{6, tcp(44, text(3))}, segment{1, text(30)}) {
		for n := range min(len(s.b), 70) + 1 {
			whole := slices.Concat(s.b, text(40))
			was := slices.Clone(whole)
			want, e := told(s.proto, slices.Clone(whole[:n]))
			got, err := Read(s.proto, whole[:n])
			if !bytes.Equal(whole, was) {
				t.Errorf("the first %d bytes: what was handed in is %x", n, whole)
			}
			spoil(whole)
			if err != e || got != want {
				t.Errorf("the first %d bytes: %v, %d, not %v, %d", n, got, err, want, e)
			}
		}
	}
}

// P10.5: what Right and Fill are handed stays, with the room behind it, which doesn't count; what is filled in is new memory.
func TestFillStays(t *testing.T) {
	for _, a := range []ends{fours(), sixes()} {
		for _, s := range segments() {
			for _, tail := range []int{0, 5} {
				n := len(s.b) + tail*s.proto/17
				whole := slices.Concat(s.b, text(40))
				was := slices.Clone(whole)
				want := filled(a, s.proto, was[:n])
				checkRight(t, a, s.proto, whole[:n], isRight(a, s.proto, was[:n]))
				first := Fill(a.src, a.dst, s.proto, whole[:n])
				second := Fill(a.src, a.dst, s.proto, whole[:n])
				if !bytes.Equal(whole, was) {
					t.Errorf("%d: what was handed in is %x", s.proto, short(whole))
				}
				spoil(first)
				if !bytes.Equal(whole, was) || !bytes.Equal(second, want) {
					t.Errorf("%d: %x and %x, not %x", s.proto, short(whole), short(second), short(want))
				}
				spoil(whole)
				if !bytes.Equal(second, want) {
					t.Errorf("%d: %x, not %x", s.proto, short(second), short(want))
				}
				checkFill(t, a, s.proto, was[:n], want)
			}
		}
	}
}

// P10.5: what is right already is filled into new memory, too.
func TestFillRightIsNew(t *testing.T) {
	for _, a := range families() {
		for _, s := range segments() {
			b := filled(a, s.proto, s.b)
			was := slices.Clone(b)
			spoil(Fill(a.src, a.dst, s.proto, b))
			if !bytes.Equal(b, was) {
				t.Errorf("%d: what was handed in is %x, not %x", s.proto, short(b), short(was))
			}
			checkFill(t, a, s.proto, b, was)
		}
	}
}

// P10.5: what is answered doesn't hang on what was asked ahead of it.
func TestAgain(t *testing.T) {
	for range 3 {
		checkRead(t, 6, tcp(24, text(5)), tcpRead(24, 25), api.OK)
		checkRead(t, 17, udp(8, nil), udpRead(8), api.OK)
		checkRefused(t, 6, tcp(24, text(3)), api.ErrEnd)
		checkRefused(t, 17, udp(9, nil), api.ErrEnd)
		for _, a := range []ends{fours(), sixes()} {
			checkFill(t, a, 6, tcp(24, text(5)), filled(a, 6, tcp(24, text(5))))
			checkFill(t, a, 17, udp(8, nil), filled(a, 17, udp(8, nil)))
		}
	}
}

// P1: of what nothing is promised the call still ends, and doesn't panic.
func TestNothingPromised(t *testing.T) {
	mixed := []ends{{fours().src, sixes().dst}, {sixes().src, fours().dst}, {ipv4(1, 2, 3, 4), api.Addr{B: sixes().src.B}}}
	for _, a := range append(families(), mixed...) {
		for _, proto := range []int{6, 17, 0, 1, -1, 256, math.MaxInt, math.MinInt} {
			for _, b := range [][]byte{nil, {}, {1}, udp(8, nil), udp(7, nil), udp(9, nil), udp(0, nil), udp(all, text(9)), tcp(20, nil), tcp(0, nil), tcp(16, text(9)), tcp(60, nil), tcp(20, text(70000)), make([]byte, 19), make([]byte, 7), bytes.Repeat([]byte{255}, 40)} {
				was := slices.Clone(b)
				Right(a.src, a.dst, proto, b)
				spoil(Fill(a.src, a.dst, proto, b))
				if !bytes.Equal(b, was) {
					t.Errorf("%d: what was handed in is %x, not %x", proto, short(b), short(was))
				}
			}
		}
	}
}
