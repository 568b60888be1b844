package nat_test

import (
	"bytes"
	"encoding/hex"
	"math"
	"slices"
	"strings"
	"testing"

	"wayleave/api"
	"wayleave/nat"
	"wayleave/packet"
	"wayleave/port"
)

// all is the greatest number of two bytes.
const all = 65535

// known is the bytes that the text tells in hexadecimal.
func known(s string) []byte {
	b, err := hex.DecodeString(strings.ReplaceAll(s, " ", ""))
	if err != nil {
		panic(err)
	}
	return b
}

// text is n bytes of which those near to each other differ.
func text(n int) []byte {
	b := make([]byte, n)
	for i := range b {
		b[i] = byte(i*i*7 + i*31 + i>>3 + 5)
	}
	return b
}

// two are the bytes of a number, big.
func two(n int) []byte { return []byte{byte(n / 256), byte(n % 256)} }

// number is that of the two bytes of b from one place on.
func number(b []byte, at int) int { return int(b[at])*256 + int(b[at+1]) }

// with is b with other bytes from one place on.
func with(b []byte, at int, to ...byte) []byte {
	b = slices.Clone(b)
	copy(b[at:], to)
	return b
}

// short is b, or the beginning of it where it is long.
func short(b []byte) []byte { return b[:min(len(b), 120)] }

// ringed is a sum of words as it is when these are added in a ring: a rest by 65535, which is 65535 where it would be 0, but of a sum of 0.
func ringed(sum int) int {
	if sum == 0 {
		return 0
	}
	return (sum-1)%all + 1
}

// ring is all words of b, added in a ring.
func ring(b []byte) int {
	sum := 0
	for i, x := range b {
		sum += int(x) * (1 + 255*(1-i%2))
	}
	return ringed(sum)
}

// changed is what the checksum c is to be, changed from the words of one text to those of another one that is as long: all is added at once, as it doesn't matter when what goes beyond is added again.
func changed(c int, from, to []byte) int {
	sum := all - c
	for i := 0; i < len(from); i += 2 {
		sum += all - number(from, i) + number(to, i)
	}
	return all - ringed(sum)
}

func ipv4(a, b, c, d byte) api.Addr { return api.Addr{B: [16]byte{a, b, c, d}} }

func ipv6(b ...byte) api.Addr { return api.Addr{Six: true, B: [16]byte(b)} }

// Two addresses of either family.
func src4() api.Addr { return ipv4(192, 168, 0, 1) }
func dst4() api.Addr { return ipv4(192, 168, 0, 199) }
func src6() api.Addr { return ipv6(known("20 01 0d b8 01 02 03 04 05 06 07 08 09 0a 0b 0c")...) }
func dst6() api.Addr { return ipv6(known("fe 80 f1 f2 f3 f4 f5 f6 f7 f8 f9 fa fb fc fd ff")...) }

// targets are addresses of a family to which frames are rewritten: those that stand in them, all bits 0, all bits 1, and others.
func targets(six bool) []api.Addr {
	if six {
		return []api.Addr{src6(), dst6(), ipv6(make([]byte, 16)...), ipv6(bytes.Repeat([]byte{255}, 16)...), ipv6(text(16)...), {Six: true, B: [16]byte{15: 1}}, {Six: true, B: [16]byte{1}}, ipv6(known("ff ff 00 00 00 00 00 00 00 00 00 00 00 00 ff ff")...)}
	}
	return []api.Addr{src4(), dst4(), {}, ipv4(255, 255, 255, 255), ipv4(10, 0, 0, 9), ipv4(0, 0, 0, 1), ipv4(1, 0, 0, 0), ipv4(255, 255, 0, 0)}
}

// targetPorts are ports to which frames are rewritten: those that stand in them, and others.
func targetPorts() []int { return []int{4660, 53, 0, 65535, 1, 255, 256, 8080, 65534} }

// shape tells how a frame is built.
type shape struct {
	tags  int
	six   bool
	more  int // how many bytes options, or extensions of 8 bytes each, have
	proto int
	opts  int // how many bytes TCP's options have
	load  int
	rest  int // how many bytes the IP packet has behind UDP's segment
	tail  int // how many bytes are behind the IP packet
}

// sample is a frame, and where in it things stand.
type sample struct {
	shape
	b             []byte
	net, seg, end int
	size          int // of the segment
}

// ether is a link's header with so many tags.
func ether(tags, kind int) []byte {
	b := known("02 00 00 00 00 01 02 00 00 00 00 02")
	for i := range tags {
		b = slices.Concat(b, two([]int{0x88a8, 0x8100, 0x8100}[i]), two([]int{0x0800, 0x86dd, 0x8100}[i]))
	}
	return slices.Concat(b, two(kind))
}

// head4 is an IPv4 header, with a right checksum.
func head4(options []byte, bits, proto, body int) []byte {
	h := slices.Concat([]byte{byte(0x45 + len(options)/4), 9}, two(20+len(options)+body), two(7), two(bits), []byte{1, byte(proto), 0, 0, 192, 168, 0, 1, 192, 168, 0, 199}, options)
	return with(h, 10, two(all-ring(h))...)
}

// head6 is an IPv6 header with n extensions, of each kind in turn; behind the last one of them is proto.
func head6(n, proto, body int) []byte {
	kinds := []int{0, 60, 51, 44, 43, 60, 0, 44, 60, proto}
	kinds = append(kinds[:n], proto)
	a, b := src6(), dst6()
	h := slices.Concat([]byte{0x6a, 0xbc, 0xde, 0xf0}, two(8*n+body), []byte{byte(kinds[0]), 255}, a.B[:], b.B[:])
	for i := range n {
		h = append(h, byte(kinds[i+1]), 0, 0, 6, 1, 2, 3, byte(i))
	}
	return h
}

// segment is one of the shape, with a checksum of 0, and what is behind it in the IP packet.
func (s shape) segment() []byte {
	ports := slices.Concat(two(4660), two(53))
	if s.proto == 6 {
		return slices.Concat(ports, text(8), []byte{byte((20 + s.opts) / 4 * 16), 0xc0 | api.Ack | api.Syn}, two(500), []byte{0, 0, 3, 4}, text(s.opts+s.load))
	}
	return slices.Concat(ports, two(8+s.load), []byte{0, 0}, text(s.load), bytes.Repeat([]byte{171}, s.rest))
}

// build is a frame of the shape, whose checksums are right.
func (s shape) build() sample {
	seg := s.segment()
	kind, head := 0x0800, []byte(nil)
	if s.six {
		kind, head = 0x86dd, head6(s.more/8, s.proto, len(seg))
	} else {
		head = head4(text(s.more), 0x4000, s.proto, len(seg))
	}
	x := sample{shape: s, net: 14 + 4*s.tags, size: len(seg) - s.rest}
	x.seg = x.net + len(head)
	x.end = x.seg + len(seg)
	x.b = slices.Concat(ether(s.tags, kind), head, seg, bytes.Repeat([]byte{93}, s.tail))
	return x.summed()
}

// shapes are those of frames with all that they can have.
func shapes() []shape {
	l := []shape{}
	for _, six := range []bool{false, true} {
		for tags := range 3 {
			for _, more := range [][]int{{0, 4, 40}, {0, 8, 64}}[map[bool]int{true: 1}[six]] {
				for _, load := range []int{0, 1, 6, 7} {
					l = append(l, shape{tags: tags, six: six, more: more, proto: 6, load: load, tail: load})
					l = append(l, shape{tags: tags, six: six, more: more, proto: 6, opts: 40, load: load})
					l = append(l, shape{tags: tags, six: six, more: more, proto: 17, load: load, tail: load})
					l = append(l, shape{tags: tags, six: six, more: more, proto: 17, load: load, rest: 1})
					l = append(l, shape{tags: tags, six: six, more: more, proto: 17, load: load, rest: 6, tail: 5})
				}
			}
		}
	}
	return l
}

// few are shapes of both families and both protocols, one of each.
func few() []shape {
	return []shape{
		{proto: 6, load: 3},
		{tags: 1, more: 8, proto: 17, load: 3, rest: 2, tail: 1},
		{tags: 2, six: true, more: 16, proto: 6, opts: 4, load: 4, tail: 2},
		{six: true, proto: 17, load: 5},
	}
}

// plainOf is the frame of that family and protocol with nothing more than it needs.
func plainOf(six bool, proto int) sample { return shape{six: six, proto: proto, load: 5}.build() }

// plains are the plain frames of both families and both protocols.
func plains() []sample {
	return []sample{plainOf(false, 6), plainOf(false, 17), plainOf(true, 6), plainOf(true, 17)}
}

// addrAt is where the address begins that is rewritten: the source's or the destination's.
func (s sample) addrAt(from bool) int {
	at := map[bool]int{false: s.net + 16, true: s.net + 12}
	if s.six {
		at = map[bool]int{false: s.net + 24, true: s.net + 8}
	}
	return at[from]
}

// addrSize is how many bytes an address has.
func (s sample) addrSize() int {
	if s.six {
		return 16
	}
	return 4
}

// portAt is where the port begins that is rewritten.
func (s sample) portAt(from bool) int {
	if from {
		return s.seg
	}
	return s.seg + 2
}

// sumAt is where the segment's checksum begins.
func (s sample) sumAt() int {
	if s.proto == 6 {
		return s.seg + 16
	}
	return s.seg + 6
}

// addr is the address that stands at one end.
func (s sample) addr(from bool) api.Addr {
	a := api.Addr{Six: s.six}
	at := s.addrAt(from)
	copy(a.B[:], s.b[at:at+s.addrSize()])
	return a
}

// port is the one that stands at one end.
func (s sample) port(from bool) int { return number(s.b, s.portAt(from)) }

// covered is what the segment's checksum counts: the pseudo header, and the segment.
func (s sample) covered() []byte {
	at := s.addrAt(true)
	addrs := s.b[at : at+2*s.addrSize()]
	return slices.Concat(addrs, []byte{0, byte(s.proto)}, two(s.size), s.b[s.seg:s.seg+s.size])
}

// summed is the sample with the right checksum of the segment.
func (s sample) summed() sample {
	s = s.sum(0)
	c := all - ring(s.covered())
	if s.proto == 17 && c == 0 {
		c = all
	}
	return s.sum(c)
}

// sum is the sample with c as the segment's checksum.
func (s sample) sum(c int) sample {
	s.b = with(s.b, s.sumAt(), two(c)...)
	return s
}

// isRight tells whether the segment's checksum is right.
func (s sample) isRight() bool {
	if s.proto == 17 && number(s.b, s.sumAt()) == 0 {
		return !s.six
	}
	return ring(s.covered()) == all
}

// told is what the frame is to be, rewritten, by the words of the chapter.
func (s sample) told(from bool, addr api.Addr, port int) []byte {
	at, size, portAt := s.addrAt(from), s.addrSize(), s.portAt(from)
	b := slices.Clone(s.b[:s.end])
	oldAddr, newAddr, oldPort := s.b[at:at+size], addr.B[:size], s.b[portAt:portAt+2]
	if !s.six {
		b = with(b, s.net+10, two(changed(number(b, s.net+10), oldAddr, newAddr))...)
	}
	was := number(b, s.sumAt())
	c := changed(changed(was, oldAddr, newAddr), oldPort, two(port))
	if s.proto == 17 && c == 0 {
		c = all
	}
	if s.proto == 17 && was == 0 {
		c = 0
	}
	b = with(b, s.sumAt(), two(c)...)
	return with(with(b, at, newAddr...), portAt, two(port)...)
}

// call is To, or From.
func call(from bool, b []byte, addr api.Addr, port int) ([]byte, api.Errno) {
	if from {
		return nat.From(b, addr, port)
	}
	return nat.To(b, addr, port)
}

func name(from bool) string {
	if from {
		return "From"
	}
	return "To"
}

// rewritten is what comes of a frame that can be rewritten.
func rewritten(t *testing.T, from bool, b []byte, addr api.Addr, port int) []byte {
	t.Helper()
	got, e := call(from, b, addr, port)
	if e != api.OK {
		t.Fatalf("%s(%x, %v, %d): error %d", name(from), short(b), addr, port, e)
	}
	return got
}

// check holds what the frame is rewritten to, at one end, against the words, byte by byte.
func check(t *testing.T, s sample, from bool, addr api.Addr, port int) {
	t.Helper()
	got, e := call(from, s.b, addr, port)
	if want := s.told(from, addr, port); e != api.OK || !bytes.Equal(got, want) {
		t.Errorf("%s(%x, %v, %d): %x, %d, not %x", name(from), short(s.b), addr, port, short(got), e, short(want))
	}
}

// checkBoth does so at both ends.
func checkBoth(t *testing.T, s sample, addr api.Addr, port int) {
	t.Helper()
	check(t, s, false, addr, port)
	check(t, s, true, addr, port)
}

// checkArg holds that the frame is refused at both ends, with nothing beside the error.
func checkArg(t *testing.T, b []byte, addr api.Addr, port int) {
	t.Helper()
	for _, from := range []bool{false, true} {
		if got, e := call(from, b, addr, port); e != api.ErrArg || len(got) != 0 {
			t.Errorf("%s(%x, %v, %d): %x, %d", name(from), short(b), addr, port, short(got), e)
		}
	}
}

// P12.1: frames that are known, rewritten; the chapter's example is the first one.
func TestKnown(t *testing.T) {
	head, six, low := "02 00 00 00 00 01 02 00 00 00 00 02 ", "20 01 0d b8 01 02 03 04 05 06 07 08 09 0a 0b 0c ", "20 01 0d b8 00 00 00 00 00 00 00 00 00 00 00 01 "
	dst := "fe 80 f1 f2 f3 f4 f5 f6 f7 f8 f9 fa fb fc fd ff "
	one := api.Addr{Six: true, B: [16]byte(known(low))}
	for _, x := range []struct {
		from     bool
		addr     api.Addr
		port     int
		was, now string
	}{
		{false, ipv4(10, 0, 0, 9), 8080, "08 00 45 00 00 28 00 00 40 00 40 06 2a bd 01 02 03 04 05 06 07 08 00 09 00 50 00 00 00 00 00 00 00 00 50 02 00 00 9f 76 00 00", "08 00 45 00 00 28 00 00 40 00 40 06 2c c2 01 02 03 04 0a 00 00 09 00 09 1f 90 00 00 00 00 00 00 00 00 50 02 00 00 82 3b 00 00"},
		{true, ipv4(255, 255, 255, 255), 65535, "81 00 00 07 08 00 45 00 00 1f 00 00 40 00 40 11 2a bb 01 02 03 04 05 06 07 08 0f a0 00 35 00 0b 1b 8d 61 62 63", "81 00 00 07 08 00 45 00 00 1f 00 00 40 00 40 11 2e c1 ff ff ff ff 05 06 07 08 ff ff 00 35 00 0b 2f 33 61 62 63"},
		{false, api.Addr{}, 0, "08 00 46 10 00 25 00 07 00 00 40 11 d5 99 01 02 03 04 05 06 07 08 94 04 00 00 00 09 00 35 00 0b 00 00 68 65 79 11 22", "08 00 46 10 00 25 00 07 00 00 40 11 e1 a7 01 02 03 04 00 00 00 00 94 04 00 00 00 09 00 00 00 0b 00 00 68 65 79 11 22"},
		{false, one, 8443, "88 a8 12 34 81 00 00 07 86 dd 60 00 00 00 00 1b 06 40 " + six + dst + "c3 50 01 bb 01 02 03 04 a1 b2 c3 d4 60 18 fa f0 d0 94 00 00 01 03 03 07 68 69 21", "88 a8 12 34 81 00 00 07 86 dd 60 00 00 00 00 1b 06 40 " + six + low + "c3 50 20 fb 01 02 03 04 a1 b2 c3 d4 60 18 fa f0 49 eb 00 00 01 03 03 07 68 69 21"},
		{true, one, 1, "86 dd 6a bc de f0 00 21 00 ff " + six + dst + "3c 00 01 04 00 00 00 00 11 01 01 0c 00 00 00 00 00 00 00 00 00 00 00 00 14 e9 14 e9 00 09 45 d6 78", "86 dd 6a bc de f0 00 21 00 ff " + low + dst + "3c 00 01 04 00 00 00 00 11 01 01 0c 00 00 00 00 00 00 00 00 00 00 00 00 00 01 14 e9 00 09 7e e7 78"},
		{false, ipv4(10, 0, 0, 9), 33367, "08 00 45 00 00 1e 00 00 40 00 40 11 2a bc 01 02 03 04 05 06 07 08 00 09 00 35 00 0a 80 1d 6f 6b", "08 00 45 00 00 1e 00 00 40 00 40 11 2c c1 01 02 03 04 0a 00 00 09 00 09 82 57 00 0a ff ff 6f 6b"},
		{true, one, 40029, "86 dd 60 00 00 00 00 0a 11 40 " + six + dst + "00 35 00 07 00 0a 77 ff 6f 6b", "86 dd 60 00 00 00 00 0a 11 40 " + low + dst + "9c 5d 00 07 00 0a ff ff 6f 6b"},
		{false, ipv4(10, 0, 0, 9), 12880, "08 00 45 00 00 2a 00 00 40 00 40 06 2a bb 01 02 03 04 05 06 07 08 00 09 00 35 00 00 00 00 00 00 00 00 50 10 00 00 30 16 00 00 6f 6b", "08 00 45 00 00 2a 00 00 40 00 40 06 2c c0 01 02 03 04 0a 00 00 09 00 09 32 50 00 00 00 00 00 00 00 00 50 10 00 00 00 00 00 00 6f 6b"},
	} {
		was, now := known(head+x.was), known(head+x.now)
		for _, b := range [][]byte{was, slices.Concat(was, text(9))} {
			if got := rewritten(t, x.from, b, x.addr, x.port); !bytes.Equal(got, now) {
				t.Errorf("%s(%x, %v, %d): %x, not %x", name(x.from), b, x.addr, x.port, got, now)
			}
		}
		p := packet.Read(was)
		addr, port := p.Tuple.Dst, p.Tuple.Dport
		if x.from {
			addr, port = p.Tuple.Src, p.Tuple.Sport
		}
		if got := rewritten(t, x.from, now, addr, port); !bytes.Equal(got, was) {
			t.Errorf("%x, rewritten back: %x, not %x", now, got, was)
		}
	}
}

// The samples are what they are taken for: fine, with right checksums, and each thing at its place.
func TestSamples(t *testing.T) {
	for _, x := range shapes() {
		s := x.build()
		want := api.Packet{Tuple: api.Tuple{Src: s.addr(true), Dst: s.addr(false), Proto: x.proto, Sport: 4660, Dport: 53}, Net: s.net, Seg: s.seg, End: s.end}
		if x.proto == 6 {
			want.Flags = api.Ack | api.Syn
		}
		if got := packet.Read(s.b); got != want || !s.isRight() || len(s.b) != s.end+x.tail {
			t.Errorf("%+v: %v, not %v", x, got, want)
		}
		if !port.Right(want.Tuple.Src, want.Tuple.Dst, x.proto, s.b[s.seg:s.end]) {
			t.Errorf("%+v: %x isn't right", x, s.b)
		}
	}
}

// P12.1: frames of all shapes, rewritten to all targets, each byte.
func TestEachByte(t *testing.T) {
	for _, x := range shapes() {
		s := x.build()
		for _, addr := range targets(x.six) {
			for _, n := range targetPorts() {
				checkBoth(t, s, addr, n)
			}
		}
	}
}

// P12.1: what mustn't change doesn't: all bytes but the address, the port and the checksums; nothing is behind the IP packet.
func TestOthersStay(t *testing.T) {
	for _, x := range shapes() {
		s := x.build()
		for _, from := range []bool{false, true} {
			addr, n := targets(x.six)[4], 8080
			got := rewritten(t, from, s.b, addr, n)
			if len(got) != s.end {
				t.Fatalf("%+v: %d bytes, not %d", x, len(got), s.end)
			}
			may := map[int]bool{s.portAt(from): true, s.portAt(from) + 1: true, s.sumAt(): true, s.sumAt() + 1: true}
			for i := range s.addrSize() {
				may[s.addrAt(from)+i] = true
			}
			if !x.six {
				may[s.net+10], may[s.net+11] = true, true
			}
			for i := range got {
				if got[i] != s.b[i] && !may[i] {
					t.Errorf("%s of %+v: byte %d became %d", name(from), x, i, got[i])
				}
			}
			at := s.addrAt(from)
			if !bytes.Equal(got[at:at+s.addrSize()], addr.B[:s.addrSize()]) || number(got, s.portAt(from)) != n {
				t.Errorf("%s of %+v: %x", name(from), x, got)
			}
		}
	}
}

// P12.1: each port, of both protocols and families.
func TestEachPort(t *testing.T) {
	for _, x := range few() {
		s := x.build()
		for n := range 65536 {
			check(t, s, false, targets(x.six)[4], n)
			check(t, s, true, targets(x.six)[3], n)
		}
	}
}

// P12.1: ports that aren't.
func TestPortsRefused(t *testing.T) {
	for _, x := range few() {
		s := x.build()
		for _, n := range []int{-1, 65536, -65536, -65535, 65536 + 53, 1 << 32, 1<<32 + 53, math.MinInt, math.MaxInt, math.MinInt + 53} {
			for _, addr := range targets(x.six) {
				checkArg(t, s.b, addr, n)
			}
		}
		checkBoth(t, s, s.addr(false), 0)
		checkBoth(t, s, s.addr(false), 65535)
	}
}

// P12.1: addresses of the other family, and those of none.
func TestAddrsRefused(t *testing.T) {
	for _, x := range shapes() {
		s := x.build()
		for _, addr := range targets(!x.six) {
			checkArg(t, s.b, addr, 80)
			checkArg(t, s.b, addr, 65536)
		}
		for i := 4; i < 16; i++ {
			for _, n := range []byte{1, 2, 128, 255} {
				for _, addr := range []api.Addr{{}, src4(), dst4(), ipv4(255, 255, 255, 255)} {
					addr.B[i] = n
					checkArg(t, s.b, addr, 80)
				}
			}
		}
		for _, addr := range targets(x.six) {
			addr.Six = !addr.Six
			checkArg(t, s.b, addr, 80)
		}
	}
}

// P12.1: each byte of an address, with each value.
func TestEachAddr(t *testing.T) {
	for _, x := range few() {
		s := x.build()
		for i := range s.addrSize() {
			for n := range 256 {
				addr := s.addr(false)
				addr.B[i] = byte(n)
				checkBoth(t, s, addr, 53)
			}
		}
	}
}

// notFine are frames of each of the kinds that aren't fine, each kind at its place.
func notFine() [][][]byte {
	l := make([][][]byte, 7)
	for _, s := range plains() {
		l[1] = append(l[1], nil, s.b[:13], s.b[:1], slices.Concat(ether(3, number(s.b, 12)), s.b[14:]))
		l[2] = append(l[2], with(s.b, 12, 8, 6), make([]byte, 14), slices.Concat(ether(2, 0), s.b[14:]))
		l[3] = append(l[3], s.b[:14], s.b[:s.end-1], with(s.b, 14, 0x55))
		l[6] = append(l[6], with(slices.Concat(s.b[:s.seg+4], []byte{0, 7}, s.b[s.seg+6:]), s.seg+12, 0x40))
	}
	four, six := plainOf(false, 6), plainOf(true, 17)
	l[3] = append(l[3], with(four.b, 24, four.b[24]^1), with(six.b, 19, 14))
	seg := four.b[four.seg:four.end]
	for _, bits := range []int{0x2000, 1, 0x6000, 0x1fff} {
		l[4] = append(l[4], slices.Concat(ether(0, 0x0800), head4(nil, bits, 6, len(seg)), seg))
	}
	frag := with(shape{six: true, more: 32, proto: 17, load: 5}.build().b, 14+40+24+3, 1)
	l[4] = append(l[4], frag, with(frag, 14+40+24+2, 255, 248))
	for _, proto := range []int{1, 0, 4, 5, 7, 16, 18, 41, 58, 59, 132, 255} {
		l[5] = append(l[5], slices.Concat(ether(1, 0x0800), head4(text(4), 0, proto, len(seg)), seg))
		if proto > 0 {
			l[5] = append(l[5], slices.Concat(ether(1, 0x86dd), head6(2, proto, len(seg)), seg))
		}
	}
	return l
}

// P12.1: frames of each kind that isn't fine, with whatever address and port.
func TestNotFine(t *testing.T) {
	for kind, frames := range notFine() {
		for _, b := range frames {
			if got := packet.Read(b).Kind; got != kind || kind == 0 {
				t.Errorf("%x: %d, not %d", b, got, kind)
			}
			for _, addr := range slices.Concat(targets(false), targets(true)) {
				for _, n := range []int{0, 80, 65535, -1, 65536} {
					checkArg(t, b, addr, n)
				}
			}
		}
		if kind > 0 && len(frames) == 0 {
			t.Errorf("no frames of kind %d", kind)
		}
	}
}

// P12.1: a frame that ends too early, with what it lacks in the room behind its length.
func TestCut(t *testing.T) {
	for _, x := range shapes() {
		s := x.build()
		for n := range s.end {
			checkArg(t, s.b[:n], s.addr(false), 80)
		}
		checkBoth(t, s, s.addr(false), 80)
	}
}

// P12.1: what is behind the IP packet goes, whatever it is, and as much as there can be.
func TestBehind(t *testing.T) {
	for _, x := range few() {
		x.tail = 0
		s := x.build()
		want := s.b
		for _, tail := range [][]byte{nil, {0}, {255}, text(46), text(1500), text(70000)} {
			s.b = slices.Concat(want, tail)
			for _, addr := range targets(x.six) {
				checkBoth(t, s, addr, 80)
			}
			if got := rewritten(t, false, s.b, s.addr(false), 53); !bytes.Equal(got, want) {
				t.Errorf("%d bytes behind: %x, not %x", len(tail), short(got), short(want))
			}
		}
	}
}

// P12.1: the longest packets: of IPv4 65535 bytes, of IPv6 40 more.
func TestLong(t *testing.T) {
	for _, six := range []bool{false, true} {
		most := 65535
		if !six {
			most -= 20
		}
		for _, less := range []int{0, 1} {
			for _, x := range []shape{{six: six, proto: 6, load: most - 20 - less, tail: 9}, {six: six, proto: 17, load: most - 8 - less}} {
				s := x.build()
				for _, addr := range targets(six) {
					checkBoth(t, s, addr, 8080)
				}
			}
		}
	}
}

// P12.1, P12.2: each checksum of the segment, right and wrong ones, 0 and all bits 1 among them: changed by the words, it is right then if it was.
func TestEachSum(t *testing.T) {
	for _, x := range few() {
		s := x.build()
		right := 0
		for c := range 65536 {
			s := s.sum(c)
			addr := targets(x.six)[4]
			checkBoth(t, s, addr, 8080)
			checkSame(t, s, c%2 == 0, addr, 65535-c)
			if s.isRight() {
				right++
			}
		}
		if want := map[bool]int{false: 1, true: 2}[x.proto == 17 && !x.six]; right != want {
			t.Errorf("%+v: %d right checksums", x, right)
		}
	}
}

// checkSame holds that the frame, rewritten, is fine, with that tuple, the same flags and places, and a checksum that is right, or wrong, as it was.
func checkSame(t *testing.T, s sample, from bool, addr api.Addr, n int) {
	t.Helper()
	got := rewritten(t, from, s.b, addr, n)
	want := packet.Read(s.b)
	if from {
		want.Tuple.Src, want.Tuple.Sport = addr, n
	} else {
		want.Tuple.Dst, want.Tuple.Dport = addr, n
	}
	p := packet.Read(got)
	if p != want || p.End != len(got) {
		t.Errorf("%s(%x, %v, %d) is read as %v, not %v", name(from), short(s.b), addr, n, p, want)
	}
	was := s.isRight()
	if is := port.Right(p.Tuple.Src, p.Tuple.Dst, p.Tuple.Proto, got[p.Seg:p.End]); is != was {
		t.Errorf("%s(%x, %v, %d): right was %t, is %t", name(from), short(s.b), addr, n, was, is)
	}
	s.b = got
	if is := s.isRight(); is != was {
		t.Errorf("%s to %v, %d: right was %t, is %t: %x", name(from), addr, n, was, is, short(got))
	}
}

// sums are segment's checksums of the sample: the right one, wrong by each bit, 0, all bits 1, and others.
func (s sample) sums() []sample {
	right := number(s.b, s.sumAt())
	l := []sample{s, s.sum(0), s.sum(all), s.sum(1), s.sum(all - 1), s.sum(all - right)}
	for bit := range 16 {
		l = append(l, s.sum(right^1<<bit))
	}
	return l
}

// P12.2: what comes out is fine, with that tuple, and right if it was right.
func TestFollows(t *testing.T) {
	for i, x := range shapes() {
		s := x.build()
		for _, addr := range targets(x.six) {
			for _, n := range targetPorts() {
				checkSame(t, s, i%2 == 0, addr, n)
				checkSame(t, s, i%2 == 1, addr, n)
			}
		}
		for _, wrong := range s.sums() {
			for _, addr := range targets(x.six) {
				checkSame(t, wrong, false, addr, 8080)
				checkSame(t, wrong, true, addr, 0)
				checkBoth(t, wrong, addr, 8080)
			}
		}
	}
}

// P12.1: a checksum of 0 stays only where it is UDP's, of both families.
func TestNone(t *testing.T) {
	for _, x := range shapes() {
		s := x.build().sum(0)
		for _, addr := range targets(x.six) {
			for _, from := range []bool{false, true} {
				c := number(rewritten(t, from, s.b, addr, 8080), s.sumAt())
				if x.proto == 17 && c != 0 {
					t.Errorf("%s of %+v to %v: %d", name(from), x, addr, c)
				}
			}
		}
		if got := rewritten(t, false, s.b, s.addr(false), 54); x.proto == 6 && number(got, s.sumAt()) != all-1 {
			t.Errorf("%+v: %x", x, got)
		}
	}
}

// P12.1: a checksum that would be 0 by the change: of UDP it has all bits 1, of TCP it is 0; among all ports there is just one such, or there are 0 and 65535, which count alike.
func TestWouldBeNone(t *testing.T) {
	for _, x := range few() {
		want, other := 0, all
		if x.proto == 17 {
			want, other = all, 0
		}
		for _, s := range []sample{x.build(), x.build().sum(0x1234)} {
			for _, from := range []bool{false, true} {
				found := 0
				for n := range 65536 {
					c := number(rewritten(t, from, s.b, targets(x.six)[4], n), s.sumAt())
					if c == other {
						t.Errorf("%s of %+v to %d: %d", name(from), x, n, c)
					}
					if c == want {
						found++
					}
				}
				if found < 1 || found > 2 {
					t.Errorf("%s of %+v: %d of all ports", name(from), x, found)
				}
			}
		}
	}
}

// P12.1: where a checksum of all bits 1 is changed to the same it is 0, of TCP; of UDP it stays.
func TestAllBits(t *testing.T) {
	for _, x := range shapes() {
		s := x.build().sum(all)
		for _, from := range []bool{false, true} {
			c := number(rewritten(t, from, s.b, s.addr(from), s.port(from)), s.sumAt())
			if want := map[int]int{6: 0, 17: all}[x.proto]; c != want {
				t.Errorf("%s of %+v: %d, not %d", name(from), x, c, want)
			}
		}
	}
	// With nothing but all bits 1 that becomes 0, all bits 1 stays.
	s := shape{proto: 6, load: 2}.build()
	s.b = rewritten(t, false, s.b, ipv4(255, 255, 255, 255), 65535)
	s = s.sum(all)
	check(t, s, false, api.Addr{}, 0)
	if c := number(rewritten(t, false, s.b, api.Addr{}, 0), s.sumAt()); c != all {
		t.Error(c)
	}
}

// zeroHead is a frame of IPv4 whose header's right checksum is 0, with that address at one end.
func zeroHead(t *testing.T, from bool, addr api.Addr, x shape) sample {
	t.Helper()
	s := x.build()
	s.b = with(s.b, s.addrAt(from), addr.B[:4]...)
	h := s.b[s.net:s.seg]
	copy(h[10:], []byte{0, 0})
	copy(h[4:], two((number(h, 4)+all-ring(h))%all))
	if ring(h) != all {
		t.Fatalf("%x", h)
	}
	return s.summed()
}

// P12.1: an IPv4 header's checksum of 0, and one of all bits 1, which is as right: changed by the words, and fine then.
func TestHeadSum(t *testing.T) {
	for _, x := range []shape{{proto: 6, load: 3}, {tags: 1, more: 8, proto: 17, load: 4, rest: 1, tail: 2}} {
		for _, from := range []bool{false, true} {
			for _, addr := range targets(false) {
				zero := zeroHead(t, from, addr, x)
				ones := zero
				ones.b = with(zero.b, zero.net+10, 255, 255)
				for _, s := range []sample{zero, ones} {
					for _, to := range targets(false) {
						checkBoth(t, s, to, 80)
						checkSame(t, s, false, to, 80)
						checkSame(t, s, true, to, 80)
					}
					back := rewritten(t, from, rewritten(t, from, s.b, ipv4(10, 0, 0, 9), 7), addr, s.port(from))
					if !bytes.Equal(back, zero.b[:zero.end]) {
						t.Errorf("%s, to %v: %x, not %x", name(from), addr, back, zero.b)
					}
				}
				if c := number(rewritten(t, from, ones.b, addr, 80), ones.net+10); c != 0 {
					t.Errorf("%s, to %v again: %d, not 0", name(from), addr, c)
				}
			}
		}
	}
	// With nothing but all bits 1 that becomes 0, all bits 1 stays.
	s := zeroHead(t, false, ipv4(255, 255, 255, 255), shape{proto: 6})
	s.b = with(s.b, s.net+10, 255, 255)
	if c := number(rewritten(t, false, s.b, api.Addr{}, 80), s.net+10); c != all {
		t.Error(c)
	}
}

// P12.2: rewritten back, a frame is as it was, up to the end of its IP packet.
func TestBack(t *testing.T) {
	for _, x := range shapes() {
		s := x.build()
		for _, from := range []bool{false, true} {
			for _, addr := range targets(x.six) {
				for _, n := range targetPorts() {
					there := rewritten(t, from, s.b, addr, n)
					if back := rewritten(t, from, there, s.addr(from), s.port(from)); !bytes.Equal(back, s.b[:s.end]) {
						t.Errorf("%s %v, %d, and back: %x, not %x", name(from), addr, n, back, s.b[:s.end])
					}
				}
			}
		}
	}
}

// P12.2: rewritten back over each port, so that each checksum of the segment is met on the way, that which is left out and all bits 1 of UDP, too.
func TestBackOverEachPort(t *testing.T) {
	for _, x := range few() {
		s := x.build()
		for n := range 65536 {
			for _, from := range []bool{false, true} {
				there := rewritten(t, from, s.b, targets(x.six)[4], n)
				if back := rewritten(t, from, there, s.addr(from), s.port(from)); !bytes.Equal(back, s.b[:s.end]) {
					t.Fatalf("%s port %d, and back: %x, not %x", name(from), n, back, s.b[:s.end])
				}
			}
		}
		if x.proto != 17 {
			continue
		}
		none := s.sum(0)
		if back := rewritten(t, false, rewritten(t, false, none.b, targets(x.six)[4], 5), s.addr(false), 53); !bytes.Equal(back, none.b[:s.end]) {
			t.Errorf("without a checksum: %x, not %x", back, none.b[:s.end])
		}
	}
}

// P12.2: UDP's checksum of all bits 1 that is right comes back as it was; of TCP it comes back as 0.
func TestBackAllBits(t *testing.T) {
	for _, x := range few() {
		s := x.build()
		for n := range 65536 {
			b := rewritten(t, false, s.b, s.addr(false), n)
			if c := number(b, s.sumAt()); c != 0 && c != all {
				continue
			}
			zero := s
			zero.b = b
			ones := zero.sum(all)
			if !ones.isRight() {
				t.Errorf("%x isn't right", ones.b)
			}
			for _, from := range []bool{false, true} {
				there := rewritten(t, from, ones.b, targets(x.six)[4], 7)
				if back := rewritten(t, from, there, ones.addr(from), ones.port(from)); !bytes.Equal(back, zero.b) {
					t.Errorf("%x, not %x", back, zero.b)
				}
			}
		}
	}
}

// P12.2: by way of another address and port a frame comes to the same.
func TestByWay(t *testing.T) {
	for _, x := range shapes() {
		s := x.build()
		for _, from := range []bool{false, true} {
			for _, addr := range targets(x.six) {
				straight := rewritten(t, from, s.b, addr, 8080)
				for _, way := range targets(x.six) {
					if got := rewritten(t, from, rewritten(t, from, s.b, way, 0), addr, 8080); !bytes.Equal(got, straight) {
						t.Errorf("%s %v by way of %v: %x, not %x", name(from), addr, way, got, straight)
					}
				}
			}
		}
	}
}

// P12.2: To and From, one behind the other, come to the same in both orders, of right and wrong checksums.
func TestBothOrders(t *testing.T) {
	for _, x := range shapes() {
		for _, s := range x.build().sums() {
			for i, src := range targets(x.six) {
				dst, n := targets(x.six)[(i+3)%len(targets(x.six))], 65535-i
				one := rewritten(t, false, rewritten(t, true, s.b, src, 7), dst, n)
				other := rewritten(t, true, rewritten(t, false, s.b, dst, n), src, 7)
				if !bytes.Equal(one, other) {
					t.Errorf("%x and %x", one, other)
				}
				p := packet.Read(one)
				if p.Tuple != (api.Tuple{Src: src, Dst: dst, Proto: x.proto, Sport: 7, Dport: n}) {
					t.Errorf("%x: %v", one, p)
				}
			}
		}
	}
}

// made is a frame made for the tuple.
func made(t *testing.T, tags []api.Tag, u api.Tuple, flags int, load []byte) []byte {
	t.Helper()
	b, e := packet.Make(api.Link{Dst: [6]byte{1, 2, 3}, Src: [6]byte{4, 5, 6}, Tags: tags}, u, flags, load)
	if e != api.OK {
		t.Fatalf("%v: %d", u, e)
	}
	return b
}

// checkMade holds frames made for the tuple, rewritten, against those that are made for what they are rewritten to.
func checkMade(t *testing.T, tags []api.Tag, u api.Tuple, flags, size int) {
	t.Helper()
	b := made(t, tags, u, flags, text(size))
	for _, addr := range targets(u.Src.Six) {
		for _, n := range targetPorts() {
			to, from := u, u
			to.Dst, to.Dport = addr, n
			from.Src, from.Sport = addr, n
			if got, want := rewritten(t, false, b, addr, n), made(t, tags, to, flags, text(size)); !bytes.Equal(got, want) {
				t.Errorf("To of %v: %x, not %x", u, got, want)
			}
			if got, want := rewritten(t, true, b, addr, n), made(t, tags, from, flags, text(size)); !bytes.Equal(got, want) {
				t.Errorf("From of %v: %x, not %x", u, got, want)
			}
		}
	}
}

// P12.1: frames that were made for one tuple, rewritten to another one, are those that are made for that.
func TestMade(t *testing.T) {
	one := api.Tuple{Src: ipv4(1, 2, 3, 4), Dst: ipv4(5, 6, 7, 8), Proto: 6, Sport: 9, Dport: 80}
	other := one
	other.Dst, other.Dport = ipv4(10, 0, 0, 9), 8080
	if got, want := rewritten(t, false, made(t, nil, one, 2, nil), ipv4(10, 0, 0, 9), 8080), made(t, nil, other, 2, nil); !bytes.Equal(got, want) {
		t.Errorf("the example: %x, not %x", got, want)
	}
	for _, tags := range [][]api.Tag{nil, {{Type: api.TagVlan, Tci: 7}}, {{Type: api.TagService, Tci: 65535}, {Type: api.TagVlan}}} {
		for _, six := range []bool{false, true} {
			for _, src := range targets(six) {
				for _, proto := range []int{6, 17} {
					for _, size := range []int{0, 1, 6, 7} {
						u := api.Tuple{Src: src, Dst: targets(six)[size], Proto: proto, Sport: 53, Dport: 4660}
						checkMade(t, tags, u, map[int]int{6: size * 9}[proto], size)
					}
				}
			}
		}
	}
}

// P12.1: rewritten at both ends, to what stands at the other one, it is the frame that is made for the tuple turned.
func TestTurned(t *testing.T) {
	for _, six := range []bool{false, true} {
		for _, proto := range []int{6, 17} {
			u := api.Tuple{Src: targets(six)[0], Dst: targets(six)[1], Proto: proto, Sport: 4660, Dport: 53}
			b := made(t, nil, u, 0, text(5))
			got := rewritten(t, true, rewritten(t, false, b, u.Src, u.Sport), u.Dst, u.Dport)
			if want := made(t, nil, packet.Turn(u), 0, text(5)); !bytes.Equal(got, want) {
				t.Errorf("%v: %x, not %x", u, got, want)
			}
		}
	}
}

// chance is a row of numbers that looks like chance, and is the same each time.
type chance uint64

func (c *chance) below(n int) int {
	*c = *c*6364136223846793005 + 1442695040888963407
	return int(uint64(*c>>33) % uint64(n))
}

// of is one of these numbers.
func (c *chance) of(list ...int) int { return list[c.below(len(list))] }

// addr is an address of a family, of which many bytes are 0 or all bits.
func (c *chance) addr(six bool) api.Addr {
	a := api.Addr{Six: six}
	for i := range map[bool]int{false: 4, true: 16}[six] {
		a.B[i] = byte(c.of(0, 255, c.below(256), c.below(256)))
	}
	return a
}

// shape is one of any kind.
func (c *chance) shape() shape {
	x := shape{tags: c.below(3), six: c.below(2) == 0, proto: c.of(6, 17), load: c.below(30), tail: c.of(0, 0, c.below(9))}
	x.more = 4 * c.of(0, 0, c.below(11))
	if x.six {
		x.more = 8 * c.of(0, 0, c.below(9))
	}
	if x.proto == 6 {
		x.opts = 4 * c.below(11)
	} else {
		x.rest = c.of(0, 0, c.below(9))
	}
	return x
}

// P12.1, P12.2: frames of all shapes with any bytes in what they carry, rewritten to any addresses and ports, against the words.
func TestByWords(t *testing.T) {
	c := chance(12)
	for range 200000 {
		s := c.shape().build()
		for range c.below(4) {
			if at := s.seg + c.below(s.end-s.seg); at >= s.sumAt() || at < s.seg+4 {
				s.b[at] = byte(c.of(0, 255, c.below(256)))
			}
		}
		if c.below(2) == 0 {
			s = s.summed()
		}
		from, addr, n := c.below(2) == 0, c.addr(s.six), c.of(0, 65535, c.below(65536))
		check(t, s, from, addr, n)
		checkSame(t, s, from, addr, n)
	}
}

// P1, P12.1: with any one bit of a frame turned it is rewritten if it is fine still, and else refused.
func TestEachBit(t *testing.T) {
	for _, x := range few() {
		s := x.build()
		addr := targets(x.six)[4]
		for bit := range 8 * len(s.b) {
			b := with(s.b, bit/8, s.b[bit/8]^1<<(bit%8))
			p := packet.Read(b)
			if p.Kind != api.Fine {
				checkArg(t, b, addr, 8080)
				continue
			}
			got := packet.Read(rewritten(t, false, b, addr, 8080))
			p.Tuple.Dst, p.Tuple.Dport = addr, 8080
			if got != p {
				t.Errorf("bit %d: %v, not %v", bit, got, p)
			}
		}
	}
}

// P1: whatever bytes, addresses and ports come, calls end, and what isn't fine is refused.
func TestAnyBytes(t *testing.T) {
	c := chance(1)
	for range 100000 {
		b := make([]byte, c.below(120))
		for i := range b {
			b[i] = byte(c.of(0, 255, c.below(256)))
		}
		if len(b) > 14 {
			copy(b[12:], two(c.of(0x0800, 0x86dd, 0x8100)))
			b[14] = byte(c.of(0x45, 0x60, 0x4f))
		}
		if packet.Read(b).Kind != api.Fine {
			checkArg(t, b, c.addr(c.below(2) == 0), c.below(65536))
		}
	}
}

// spoil overwrites bytes, with all the room behind their length.
func spoil(b []byte) {
	b = b[:cap(b)]
	for i := range b {
		b[i] = ^b[i]
	}
}

// P12.3: what is handed in stays, with the room behind it, and isn't kept: what was answered doesn't change with it.
func TestStays(t *testing.T) {
	for _, x := range shapes() {
		s := x.build()
		for _, from := range []bool{false, true} {
			whole := slices.Concat(s.b, text(90))
			was := slices.Clone(whole)
			addr := targets(x.six)[4]
			got := rewritten(t, from, whole[:len(s.b)], addr, 8080)
			if !bytes.Equal(whole, was) {
				t.Errorf("%s of %+v: what was handed in is %x", name(from), x, whole)
			}
			spoil(whole)
			if want := s.told(from, addr, 8080); !bytes.Equal(got, want) {
				t.Errorf("%s of %+v: %x, not %x", name(from), x, got, want)
			}
			whole = slices.Clone(was)
			checkArg(t, whole[:s.end-1], addr, 8080)
			checkArg(t, whole, addr, 65536)
			if !bytes.Equal(whole, was) {
				t.Errorf("%s of %+v, refused: what was handed in is %x", name(from), x, whole)
			}
		}
	}
}

// P12.3: what is answered is new memory: neither what was handed in nor another answer has any of it, in the room behind it either, though nothing is changed.
func TestNewMemory(t *testing.T) {
	for _, x := range shapes() {
		s := x.build()
		for _, from := range []bool{false, true} {
			for _, addr := range []api.Addr{s.addr(from), targets(x.six)[4]} {
				whole := slices.Concat(s.b, text(90))
				was := slices.Clone(whole)
				one := rewritten(t, from, whole[:len(s.b)], addr, s.port(from))
				other := rewritten(t, from, whole[:len(s.b)], addr, s.port(from))
				spoil(one)
				if !bytes.Equal(whole, was) || !bytes.Equal(other, s.told(from, addr, s.port(from))) {
					t.Errorf("%s of %+v: its answer shares memory", name(from), x)
				}
			}
		}
	}
}

// P12.1: what is answered doesn't hang on what was asked ahead of it, a call that was refused among it.
func TestAgain(t *testing.T) {
	for range 2 {
		for _, x := range few() {
			s := x.build()
			checkBoth(t, s, targets(x.six)[4], 8080)
			checkArg(t, s.b, targets(!x.six)[4], 8080)
			checkArg(t, s.b[:s.end-1], targets(x.six)[4], 8080)
			checkArg(t, nil, targets(x.six)[4], -1)
			checkBoth(t, s, targets(x.six)[4], 8080)
		}
	}
}
