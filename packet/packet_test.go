package packet_test

import (
	"bytes"
	"encoding/hex"
	"math"
	"slices"
	"strings"
	"testing"

	"wayleave/api"
	"wayleave/packet"
)

// all is the greatest number of two bytes.
const all = 65535

// known is the bytes that the text tells in hexadecimal.
func known(s string) []byte {
	b, err := hex.DecodeString(strings.ReplaceAll(s, " ", ""))
	if err != nil {
		panic(err)
	}
	return b
}

// text is n bytes of which those near to each other differ.
func text(n int) []byte {
	b := make([]byte, n)
	for i := range b {
		b[i] = byte(i*i*7 + i*31 + i>>3 + 5)
	}
	return b
}

// two are the bytes of a number, big.
func two(n int) []byte { return []byte{byte(n / 256), byte(n % 256)} }

// number is that of the two bytes of b from one place on.
func number(b []byte, at int) int { return int(b[at])*256 + int(b[at+1]) }

// with is b with other bytes from one place on.
func with(b []byte, at int, to ...byte) []byte {
	b = slices.Clone(b)
	copy(b[at:], to)
	return b
}

// short is b, or the beginning of it where it is long.
func short(b []byte) []byte { return b[:min(len(b), 120)] }

// ring is all words of b, added in a ring: as a rest by 65535, which is 65535 where it would be 0.
func ring(b []byte) int {
	sum := 0
	for i, x := range b {
		sum += int(x) * (1 + 255*(1-i%2))
	}
	if sum == 0 {
		return 0
	}
	return (sum-1)%all + 1
}

func ipv4(a, b, c, d byte) api.Addr { return api.Addr{B: [16]byte{a, b, c, d}} }

func ipv6(b ...byte) api.Addr { return api.Addr{Six: true, B: [16]byte(b)} }

// Two addresses of either family.
func src4() api.Addr { return ipv4(192, 168, 0, 1) }
func dst4() api.Addr { return ipv4(192, 168, 0, 199) }
func src6() api.Addr { return ipv6(known("20 01 0d b8 01 02 03 04 05 06 07 08 09 0a 0b 0c")...) }
func dst6() api.Addr { return ipv6(known("fe 80 f1 f2 f3 f4 f5 f6 f7 f8 f9 fa fb fc fd ff")...) }

// ether is a link's header with so many tags, which tell what looks like types.
func ether(tags, kind int) []byte {
	b := known("02 00 00 00 00 01 02 00 00 00 00 02")
	for i := range tags {
		b = slices.Concat(b, two([]int{0x88a8, 0x8100, 0x8100}[i]), two([]int{0x0800, 0x86dd, 0x8100}[i]))
	}
	return slices.Concat(b, two(kind))
}

// summed is the IPv4 header h, or the packet, with the right checksum.
func summed(h []byte) []byte {
	h = with(h, 10, 0, 0)
	return with(h, 10, two(all-ring(h[:int(h[0])%16*4]))...)
}

// packet4 is a packet of IPv4.
func packet4(options []byte, bits, proto int, body []byte) []byte {
	total := 20 + len(options) + len(body)
	h := slices.Concat([]byte{byte(0x45 + len(options)/4), 9}, two(total), two(7), two(bits), []byte{1, byte(proto), 0, 0, 192, 168, 0, 1, 192, 168, 0, 199}, options)
	return slices.Concat(summed(h), body)
}

// packet6 is a packet of IPv6; proto tells of the first of the extensions.
func packet6(exts []byte, proto int, body []byte) []byte {
	a, b := src6(), dst6()
	return slices.Concat([]byte{0x6a, 0xbc, 0xde, 0xf0}, two(len(exts)+len(body)), []byte{byte(proto), 255}, a.B[:], b.B[:], exts, body)
}

// family is how packets of one are built: the type, how many bytes the header has, and the addresses.
type family struct {
	kind, head int
	src, dst   api.Addr
	build      func(proto int, body []byte) []byte
}

func families() []family {
	return []family{
		{0x0800, 20, src4(), dst4(), func(proto int, body []byte) []byte { return packet4(nil, 0, proto, body) }},
		{0x86dd, 40, src6(), dst6(), func(proto int, body []byte) []byte { return packet6(nil, proto, body) }},
	}
}

// frame is one with so many tags that carries a packet of the family.
func (f family) frame(tags, proto int, body []byte) []byte {
	return slices.Concat(ether(tags, f.kind), f.build(proto, body))
}

// fine is what such a frame is read as, with more bytes between the header and the segment.
func (f family) fine(tags, proto, more, size int) api.Packet {
	net := 14 + 4*tags
	p := api.Packet{Tuple: api.Tuple{Src: f.src, Dst: f.dst, Proto: proto, Sport: 4660, Dport: 53}, Net: net, Seg: net + f.head + more}
	if proto == 6 {
		p.Tuple.Sport, p.Tuple.Dport, p.Flags = 80, 4096, api.Ack|api.Syn
	}
	p.End = p.Seg + size
	return p
}

// udp is a segment of UDP whose header tells of so many bytes, with a load behind. Its checksum is wrong, which matters for nothing.
func udp(total int, load []byte) []byte {
	return slices.Concat(two(4660), two(53), two(total), []byte{1, 2}, load)
}

// tcp is a segment of TCP whose header tells of head bytes, with what is behind its first 20. Its checksum is wrong, too.
func tcp(head int, behind []byte) []byte {
	return slices.Concat(two(80), two(4096), text(8), []byte{byte(head / 4 * 16), api.Ack | api.Syn}, two(500), []byte{1, 2, 3, 4}, behind)
}

// seg is a segment of either protocol with n bytes behind its header.
func seg(proto, n int) []byte {
	if proto == 6 {
		return tcp(20, text(n))
	}
	return udp(8+n, text(n))
}

// told is what Read is to answer, by the words of the chapter, and of those that it calls.
func told(b []byte) api.Packet {
	at, kind := toldLink(b)
	if at == 0 {
		return api.Packet{Kind: 1}
	}
	h, ok := ip{}, false
	switch kind {
	case 0x0800:
		h, ok = toldFour(b[at:])
	case 0x86dd:
		h, ok = toldSix(b[at:])
	default:
		return api.Packet{Kind: 2}
	}
	if !ok {
		return api.Packet{Kind: 3}
	}
	if h.frag {
		return api.Packet{Kind: 4}
	}
	if h.proto != 6 && h.proto != 17 {
		return api.Packet{Kind: 5}
	}
	s := b[at+h.head : at+h.total]
	if !isSegment(h.proto, s) {
		return api.Packet{Kind: 6}
	}
	p := api.Packet{Tuple: api.Tuple{Src: h.src, Dst: h.dst, Proto: h.proto, Sport: number(s, 0), Dport: number(s, 2)}, Net: at, Seg: at + h.head, End: at + h.total}
	if h.proto == 6 {
		p.Flags = int(s[13]) % 64
	}
	return p
}

// ip is what counts of an IP header.
type ip struct {
	head, total, proto int
	frag               bool
	src, dst           api.Addr
}

// toldLink is at which byte the link's header ends, and the Type; 0 and 0, if there is none.
func toldLink(b []byte) (int, int) {
	for tags := range 3 {
		at := 12 + 4*tags
		if len(b) < at+2 {
			return 0, 0
		}
		if kind := number(b, at); kind != 0x8100 && kind != 0x88a8 {
			return at + 2, kind
		}
	}
	return 0, 0
}

func toldFour(b []byte) (ip, bool) {
	if len(b) < 20 || b[0]/16 != 4 {
		return ip{}, false
	}
	h := ip{head: int(b[0]) % 16 * 4, total: number(b, 2), proto: int(b[9])}
	if h.head < 20 || h.head > len(b) || h.total < h.head || h.total > len(b) || ring(b[:h.head]) != all {
		return ip{}, false
	}
	h.frag = number(b, 6)%0x4000 != 0
	copy(h.src.B[:], b[12:16])
	copy(h.dst.B[:], b[16:20])
	return h, true
}

func toldSix(b []byte) (ip, bool) {
	if len(b) < 40 || b[0]/16 != 6 {
		return ip{}, false
	}
	h := ip{head: 40, total: 40 + number(b, 4), proto: int(b[6]), src: ipv6(b[8:24]...), dst: ipv6(b[24:40]...)}
	if h.total > len(b) {
		return ip{}, false
	}
	units := map[int]int{0: 8, 43: 8, 60: 8, 51: 4, 44: 0}
	for exts := 0; !h.frag; exts++ {
		unit, is := units[h.proto]
		if !is {
			break
		}
		if exts == 8 || h.total-h.head < 8 {
			return ip{}, false
		}
		x := b[h.head:h.total]
		size := 8 + unit*int(x[1])
		if size > len(x) {
			return ip{}, false
		}
		h.frag = h.proto == 44 && (x[2] != 0 || x[3]&0xf9 != 0)
		h.head += size
		h.proto = int(x[0])
	}
	return h, true
}

// isSegment tells whether s begins with a segment of the protocol.
func isSegment(proto int, s []byte) bool {
	if proto == 6 {
		return len(s) >= 20 && s[12] >= 0x50 && int(s[12])/16*4 <= len(s)
	}
	return len(s) >= 8 && number(s, 4) >= 8 && number(s, 4) <= len(s)
}

// checkRead holds what Read answers against want, each field.
func checkRead(t *testing.T, b []byte, want api.Packet) {
	t.Helper()
	if p := packet.Read(b); p != want {
		t.Errorf("Read(%x), of %d bytes: %v, not %v", short(b), len(b), p, want)
	}
}

// checkKind holds what Read answers against a kind that isn't fine, with nothing else.
func checkKind(t *testing.T, b []byte, kind int) {
	t.Helper()
	checkRead(t, b, api.Packet{Kind: kind})
}

// checkTold holds what Read answers against the words.
func checkTold(t *testing.T, b []byte) {
	t.Helper()
	checkRead(t, b, told(b))
}

// The kinds as the chapter numbers them.
func TestKinds(t *testing.T) {
	for i, kind := range []int{api.Fine, api.Runt, api.Alien, api.BadNet, api.Fragment, api.AlienPort, api.BadPort} {
		if i != kind {
			t.Errorf("%d: %d", i, kind)
		}
	}
}

// P11.1: frames that are known; the chapter's examples are the first two.
func TestReadKnown(t *testing.T) {
	head, four, six := "02 00 00 00 00 01 02 00 00 00 00 02 ", "c0 a8 00 01 c0 a8 00 c7 ", "20 01 0d b8 01 02 03 04 05 06 07 08 09 0a 0b 0c fe 80 f1 f2 f3 f4 f5 f6 f7 f8 f9 fa fb fc fd ff "
	for _, x := range []struct {
		b    string
		want api.Packet
	}{
		{"00 00 00 00 00 00 00 00 00 00 00 00 00", api.Packet{Kind: api.Runt}},
		{"00 00 00 00 00 00 00 00 00 00 00 00 00 00", api.Packet{Kind: api.Alien}},
		{head + "08 00 45 00 00 2c 00 00 40 00 40 06 b8 b3 " + four + "0f a0 01 bb 00 00 00 00 00 00 00 00 50 12 00 00 4e 87 00 00 6c 6f 61 64", api.Packet{Tuple: api.Tuple{Src: src4(), Dst: dst4(), Proto: 6, Sport: 4000, Dport: 443}, Flags: api.Syn | api.Ack, Net: 14, Seg: 34, End: 58}},
		{head + "81 00 00 07 08 00 45 00 00 1f 00 00 40 00 40 11 b8 b5 " + four + "00 35 ff ff 00 0b b9 27 61 62 63", api.Packet{Tuple: api.Tuple{Src: src4(), Dst: dst4(), Proto: 17, Sport: 53, Dport: 65535}, Net: 18, Seg: 38, End: 49}},
		{head + "88 a8 12 34 81 00 00 07 86 dd 60 00 00 00 00 14 06 40 " + six + "ff ff 00 00 00 00 00 00 00 00 00 00 50 3f 00 00 97 72 00 00", api.Packet{Tuple: api.Tuple{Src: src6(), Dst: dst6(), Proto: 6, Sport: 65535}, Flags: 63, Net: 22, Seg: 62, End: 82}},
		{head + "86 dd 60 00 00 00 00 0d 11 40 " + six + "00 01 00 02 00 0d a3 cb 68 65 6c 6c 6f", api.Packet{Tuple: api.Tuple{Src: src6(), Dst: dst6(), Proto: 17, Sport: 1, Dport: 2}, Net: 14, Seg: 54, End: 67}},
		{head + "08 00 46 10 00 33 00 07 00 00 01 06 a2 91 " + four + "94 04 00 00 c3 50 01 bb 01 02 03 04 a1 b2 c3 d4 60 18 fa f0 66 af 00 00 01 03 03 07 68 69 21 00 00", api.Packet{Tuple: api.Tuple{Src: src4(), Dst: dst4(), Proto: 6, Sport: 50000, Dport: 443}, Flags: api.Ack | api.Psh, Net: 14, Seg: 38, End: 65}},
		{head + "86 dd 6a bc de f0 00 21 00 ff " + six + "3c 00 01 04 00 00 00 00 11 01 01 0c 00 00 00 00 00 00 00 00 00 00 00 00 14 e9 14 e9 00 09 45 d6 78", api.Packet{Tuple: api.Tuple{Src: src6(), Dst: dst6(), Proto: 17, Sport: 5353, Dport: 5353}, Net: 14, Seg: 78, End: 87}},
		{head + "08 00 45 00 00 1d 00 00 20 00 40 11 d8 b7 " + four + "14 e9 14 e9 00 09 db f0 78", api.Packet{Kind: api.Fragment}},
		{head + "08 00 45 00 00 1c 00 00 40 00 40 01 b8 c8 " + four + "08 00 f7 ff 00 00 00 00", api.Packet{Kind: api.AlienPort}},
		{head + "08 06 00 01 08 00 06 04 00 01 02 00 00 00 00 02 c0 a8 00 01 00 00 00 00 00 00 c0 a8 00 c7", api.Packet{Kind: api.Alien}},
		{head + "08 00 45 00 00 1c 00 00 40 00 40 11 b8 b8 " + four + "00 35 ff ff 00 09 b9 27", api.Packet{Kind: api.BadPort}},
		{head + "08 00 45 00 00 1c 00 00 40 00 40 11 b8 b9 " + four + "00 35 ff ff 00 08 b9 27", api.Packet{Kind: api.BadNet}},
	} {
		checkRead(t, known(x.b), x.want)
		checkTold(t, known(x.b))
	}
}

// P11.1: no bytes, and as many as a link's header hasn't got, whatever they tell, with room behind them and without.
func TestReadRunt(t *testing.T) {
	checkKind(t, nil, api.Runt)
	checkKind(t, []byte{}, api.Runt)
	for n := range 14 {
		for _, b := range [][]byte{make([]byte, 80), bytes.Repeat([]byte{255}, 80), text(80), families()[0].frame(0, 6, seg(6, 9)), families()[1].frame(0, 17, seg(17, 9))} {
			checkKind(t, b[:n], api.Runt)
			checkKind(t, b[:n:n], api.Runt)
		}
	}
	checkKind(t, make([]byte, 14), api.Alien)
	for _, f := range families() {
		for tags := range 3 {
			b := f.frame(tags, 6, seg(6, 5))
			for n := range 14 + 4*tags {
				checkKind(t, b[:n], api.Runt)
				checkKind(t, b[:n:n], api.Runt)
			}
			checkKind(t, b[:14+4*tags], api.BadNet)
			checkKind(t, ether(tags, 0), api.Alien)
		}
		b := f.frame(3, 6, seg(6, 5))
		for n := range len(b) + 1 {
			checkKind(t, b[:n], api.Runt)
		}
	}
}

// P11.1: each Type behind no tag, one and two, whatever packet is behind it.
func TestReadTypes(t *testing.T) {
	for tags := range 3 {
		for _, f := range families() {
			b := f.frame(tags, 17, seg(17, 3))
			at := 12 + 4*tags
			for kind := range 65536 {
				copy(b[at:], two(kind))
				switch {
				case kind == f.kind:
					checkRead(t, b, f.fine(tags, 17, 0, 11))
				case kind == 0x0800, kind == 0x86dd:
					checkKind(t, b, api.BadNet)
				case kind == 0x8100, kind == 0x88a8:
					checkTold(t, b)
				default:
					checkKind(t, b, api.Alien)
				}
			}
		}
	}
}

// P11.1: a header of the other family than the Type tells, and each first byte that a header can have.
func TestReadOtherFamily(t *testing.T) {
	for tags := range 3 {
		for _, proto := range []int{6, 17} {
			for i, f := range families() {
				b := slices.Concat(ether(tags, families()[1-i].kind), f.build(proto, seg(proto, 80)))
				checkKind(t, b, api.BadNet)
				for first := range 256 {
					at := 14 + 4*tags
					b := f.frame(tags, proto, seg(proto, 80))
					b[at] = byte(first)
					checkTold(t, b)
					if first/16 != []int{4, 6}[i] {
						checkKind(t, b, api.BadNet)
					}
					if i == 0 && first%16 >= 5 {
						b = slices.Concat(b[:at], summed(b[at:]))
						checkTold(t, b)
					}
				}
			}
		}
	}
}

// What can be wrong with a frame, each as a bit.
const (
	wrongLink = 1 << iota
	wrongType
	wrongNet
	wrongWhole
	wrongProto
	wrongSeg
	wrongAll
)

// spoilt is a frame with which so much is wrong.
func spoilt(f family, proto, wrong int) []byte {
	body, number := seg(proto, 12), proto
	if wrong&wrongSeg != 0 {
		body = body[:7]
	}
	if wrong&wrongProto != 0 {
		number = 1
	}
	b := f.build(number, body)
	if wrong&wrongWhole != 0 && f.kind == 0x86dd {
		b = packet6([]byte{byte(number), 0, 0, 8, 0, 0, 0, 0}, 44, body)
	}
	if wrong&wrongWhole != 0 && f.kind == 0x0800 {
		b = packet4(nil, 0x2000, number, body)
	}
	if wrong&wrongNet != 0 && f.kind == 0x86dd {
		b[5]++
	}
	if wrong&wrongNet != 0 && f.kind == 0x0800 {
		b[11]++
	}
	tags, kind := 0, f.kind
	if wrong&wrongLink != 0 {
		tags = 3
	}
	if wrong&wrongType != 0 {
		kind ^= 1
	}
	return slices.Concat(ether(tags, kind), b)
}

// P11.1: whatever is wrong together, the first kind that is so is told, and nothing else.
func TestReadFirst(t *testing.T) {
	for _, f := range families() {
		for _, proto := range []int{6, 17} {
			checkRead(t, spoilt(f, proto, 0), f.fine(0, proto, 0, len(seg(proto, 12))))
			for wrong := 1; wrong < wrongAll; wrong++ {
				kind := 1
				for wrong>>(kind-1)&1 == 0 {
					kind++
				}
				checkKind(t, spoilt(f, proto, wrong), kind)
			}
		}
	}
}

// P11.1: each fault of an IP header.
func TestReadBadNet(t *testing.T) {
	for tags := range 3 {
		for _, proto := range []int{6, 17} {
			size := len(seg(proto, 9))
			at := 14 + 4*tags
			for i, f := range families() {
				b := f.frame(tags, proto, seg(proto, 9))
				for n := at; n < len(b); n++ {
					checkKind(t, b[:n], api.BadNet)
					checkKind(t, b[:n:n], api.BadNet)
				}
				checkRead(t, b, f.fine(tags, proto, 0, size))
				place := at + []int{2, 4}[i]
				checkKind(t, with(b, place, two(number(b, place)+1)...), api.BadNet)
				checkKind(t, with(b, place, 255, 255), api.BadNet)
			}
			b := families()[0].frame(tags, proto, seg(proto, 9))
			for bit := range 20 * 8 {
				checkKind(t, with(b, at+bit/8, b[at+bit/8]^1<<(bit%8)), api.BadNet)
			}
			for total := range 20 {
				checkKind(t, slices.Concat(b[:at], summed(with(b[at:], 2, two(total)...))), api.BadNet)
			}
			for words := range 5 {
				checkKind(t, slices.Concat(b[:at], summed(with(b[at:], 0, byte(0x40+words)))), api.BadNet)
			}
		}
	}
}

// P11.1: each value of the bits that tell fragments of IPv4, of which Keep, and the one that counts for nothing, make none.
func TestReadFragmentFour(t *testing.T) {
	f := families()[0]
	for bits := range 65536 {
		b := packet4(nil, bits, 17, seg(17, 3))
		frame := slices.Concat(ether(1, 0x0800), b)
		if bits%0x4000 == 0 {
			checkRead(t, frame, f.fine(1, 17, 0, 11))
			continue
		}
		checkKind(t, frame, api.Fragment)
	}
	for _, bits := range []int{0x2000, 1, 0x1fff, 0x3fff, 0xffff} {
		for _, proto := range []int{0, 1, 6, 17, 44, 255} {
			for _, body := range [][]byte{nil, text(3), seg(6, 0), seg(17, 0), tcp(0, nil), udp(0, nil)} {
				checkKind(t, slices.Concat(ether(0, 0x0800), packet4(nil, bits, proto, body)), api.Fragment)
				checkKind(t, slices.Concat(ether(2, 0x0800), packet4(text(8), bits, proto, body)), api.Fragment)
			}
		}
	}
}

// P11.1: each value of the bits that tell fragments of IPv6; an extension that tells of none is skipped.
func TestReadFragmentSix(t *testing.T) {
	f := families()[1]
	for bits := range 65536 {
		frame := slices.Concat(ether(1, 0x86dd), packet6(slices.Concat([]byte{6, 255}, two(bits), text(4)), 44, seg(6, 3)))
		if bits&^6 == 0 {
			checkRead(t, frame, f.fine(1, 6, 8, 23))
			continue
		}
		checkKind(t, frame, api.Fragment)
	}
	for _, bits := range []int{1, 8, 0xfff8, 0xffff} {
		for next := range 256 {
			ext := slices.Concat([]byte{byte(next), 0}, two(bits), make([]byte, 4))
			for _, body := range [][]byte{nil, text(3), seg(6, 0), seg(17, 0)} {
				checkKind(t, slices.Concat(ether(0, 0x86dd), packet6(ext, 44, body)), api.Fragment)
				behind := slices.Concat([]byte{44, 0, 0, 0, 0, 0, 0, 0}, ext)
				checkKind(t, slices.Concat(ether(2, 0x86dd), packet6(behind, 60, body)), api.Fragment)
			}
		}
	}
}

// P11.1: options of IPv4, whatever they are, and as many as there can be.
func TestReadOptions(t *testing.T) {
	f := families()[0]
	for words := range 11 {
		for _, options := range [][]byte{make([]byte, 4*words), bytes.Repeat([]byte{255}, 4*words), text(4 * words), bytes.Repeat([]byte{0x94, 4, 0, 0}, words)} {
			for tags := range 3 {
				for _, proto := range []int{6, 17} {
					b := slices.Concat(ether(tags, 0x0800), packet4(options, 0x4000, proto, seg(proto, 5)))
					checkRead(t, b, f.fine(tags, proto, 4*words, len(seg(proto, 5))))
					checkKind(t, slices.Concat(ether(tags, 0x0800), packet4(options, 0, 1, seg(proto, 5))), api.AlienPort)
					checkKind(t, slices.Concat(ether(tags, 0x0800), packet4(options, 0, proto, nil)), api.BadPort)
					for n := range 4*words + 20 {
						checkKind(t, b[:14+4*tags+n], api.BadNet)
					}
				}
			}
		}
	}
}

// ext is an extension of the kind that tells what is next, with a second byte.
func ext(kind, next, second int) []byte {
	size := 8 + map[int]int{0: 8, 43: 8, 60: 8, 51: 4, 44: 0}[kind]*second
	return slices.Concat([]byte{byte(next), byte(second), 0, 6}, text(size-4))
}

// kinds are those of extensions.
func kinds() []int { return []int{0, 43, 60, 51, 44} }

// row is extensions one behind the other, the last of which tells what is next; and what tells of the first one.
func row(list []int, second, next int) ([]byte, int) {
	b := []byte{}
	for i := len(list) - 1; i >= 0; i-- {
		b = slices.Concat(ext(list[i], next, second), b)
		next = list[i]
	}
	return b, next
}

// P11.1: extensions of IPv6, each kind, alone, in pairs and as many as there may be, are skipped; one more is one too many.
func TestReadExts(t *testing.T) {
	f := families()[1]
	lists := [][]int{{}, {0, 43, 60, 51, 44, 60, 0, 51}}
	for _, a := range kinds() {
		lists = append(lists, []int{a}, slices.Repeat([]int{a}, 7), slices.Repeat([]int{a}, 8))
		for _, b := range kinds() {
			lists = append(lists, []int{a, b}, []int{a, b, a})
		}
	}
	for _, list := range lists {
		for _, second := range []int{0, 1, 2, 3, 255} {
			for _, proto := range []int{6, 17, 1, 58, 59} {
				exts, first := row(list, second, proto)
				if len(exts) > 60000 {
					continue
				}
				b := slices.Concat(ether(1, 0x86dd), packet6(exts, first, seg(proto, 40)))
				if proto == 6 || proto == 17 {
					checkRead(t, b, f.fine(1, proto, len(exts), len(seg(proto, 40))))
				} else {
					checkKind(t, b, api.AlienPort)
				}
				for _, n := range []int{1, 7, 8, len(exts) - 1, len(exts) - 8} {
					if n > 0 && n < len(exts) {
						checkTold(t, slices.Concat(ether(0, 0x86dd), packet6(exts[:n], first, nil)))
					}
				}
				if len(exts) > 0 {
					cut := slices.Concat(ether(0, 0x86dd), packet6(exts[:len(exts)-1], first, nil))
					checkKind(t, cut, api.BadNet)
					// What is lacking stands behind the packet, and isn't its own.
					checkKind(t, slices.Concat(cut, make([]byte, 3000)), api.BadNet)
				}
			}
		}
	}
	for _, a := range kinds() {
		exts, first := row(slices.Repeat([]int{a}, 9), 0, 6)
		checkKind(t, slices.Concat(ether(0, 0x86dd), packet6(exts, first, seg(6, 40))), api.BadNet)
	}
}

// P11.1: each protocol, in IPv4, in IPv6, and behind extensions of each kind.
func TestReadProtos(t *testing.T) {
	for proto := range 256 {
		for _, n := range []int{0, 5} {
			for i, f := range families() {
				if proto == 6 || proto == 17 {
					checkRead(t, f.frame(2, proto, seg(proto, n)), f.fine(2, proto, 0, len(seg(proto, n))))
					checkKind(t, f.frame(2, proto, nil), api.BadPort)
					continue
				}
				if i == 1 && slices.Contains(kinds(), proto) {
					continue
				}
				for _, body := range [][]byte{nil, text(3), seg(6, n), seg(17, n)} {
					checkKind(t, f.frame(0, proto, body), api.AlienPort)
					checkKind(t, f.frame(2, proto, body), api.AlienPort)
				}
			}
			for _, kind := range kinds() {
				if slices.Contains(kinds(), proto) || proto == 6 || proto == 17 {
					continue
				}
				for _, body := range [][]byte{nil, seg(6, n), seg(17, n)} {
					checkKind(t, slices.Concat(ether(0, 0x86dd), packet6(ext(kind, proto, 0), kind, body)), api.AlienPort)
				}
			}
		}
	}
}

// packets are such with a body, behind a link's header: plain ones, with options and with extensions.
func packets(proto int, body []byte) [][]byte {
	exts, first := row([]int{0, 51}, 1, proto)
	return [][]byte{
		slices.Concat(ether(0, 0x0800), packet4(nil, 0x4000, proto, body)),
		slices.Concat(ether(1, 0x0800), packet4(text(12), 0, proto, body)),
		slices.Concat(ether(0, 0x86dd), packet6(nil, proto, body)),
		slices.Concat(ether(2, 0x86dd), packet6(exts, first, body)),
	}
}

// read are what packets' frames are read as, if they are fine, with a segment of size bytes.
func read(proto, size int) []api.Packet {
	four, six := families()[0], families()[1]
	return []api.Packet{four.fine(0, proto, 0, size), four.fine(1, proto, 12, size), six.fine(0, proto, 0, size), six.fine(2, proto, 28, size)}
}

// checkSegment holds what frames with the body are read as against what chapter 10 tells of it, with bytes behind the packet and without.
func checkSegment(t *testing.T, proto int, body []byte, isFine bool) {
	t.Helper()
	for i, b := range packets(proto, body) {
		want := api.Packet{Kind: api.BadPort}
		if isFine {
			want = read(proto, len(body))[i]
		}
		checkRead(t, b, want)
		checkRead(t, slices.Concat(b, text(70)), want)
		checkRead(t, slices.Concat(b, make([]byte, 70))[:len(b)], want)
	}
}

// P11.1: each fault of a segment's header; what it lacks isn't found behind the packet.
func TestReadBadPort(t *testing.T) {
	for n := range 70 {
		for head := range 16 {
			body := tcp(4*head, text(50))[:n]
			checkSegment(t, 6, body, n >= 20 && head >= 5 && 4*head <= n)
		}
		for total := range 80 {
			body := udp(total, text(62))[:n]
			checkSegment(t, 17, body, n >= 8 && total >= 8 && total <= n)
		}
		checkSegment(t, 17, udp(65535, text(62))[:n], false)
		checkSegment(t, 17, udp(256, text(62))[:n], false)
	}
}

// P11.1: a UDP segment that ends ahead of the IP packet: the packet's end is told.
func TestReadShortSegment(t *testing.T) {
	for total := 8; total < 60; total++ {
		for more := range 20 {
			body := udp(total, text(total-8+more))
			for i, b := range packets(17, body) {
				checkRead(t, b, read(17, total+more)[i])
				checkRead(t, slices.Concat(b, text(9)), read(17, total+more)[i])
			}
		}
	}
}

// P11.1, P11.3: bytes behind the IP packet, whatever they are, as many as can be.
func TestReadBehind(t *testing.T) {
	for _, proto := range []int{6, 17} {
		for _, n := range []int{0, 1, 6, 7} {
			body := seg(proto, n)
			for i, b := range packets(proto, body) {
				for _, tail := range [][]byte{nil, {0}, {255}, {0, 0}, text(7), seg(6, 0), seg(17, 0), make([]byte, 46), text(1500), text(70000)} {
					checkRead(t, slices.Concat(b, tail), read(proto, len(body))[i])
				}
				checkKind(t, b[:len(b)-1], api.BadNet)
			}
		}
	}
}

// P11.1: the longest packets that can be: of IPv4 65535 bytes, of IPv6 40 more.
func TestReadLong(t *testing.T) {
	for i, f := range families() {
		most := []int{65535 - 20, 65535}[i]
		for _, n := range []int{most, most - 1} {
			b := f.frame(1, 6, tcp(60, text(n-20)))
			checkRead(t, b, f.fine(1, 6, 0, n))
			checkRead(t, slices.Concat(b, text(3)), f.fine(1, 6, 0, n))
			checkKind(t, b[:len(b)-1], api.BadNet)
			checkRead(t, f.frame(0, 17, udp(n, text(n-8))), f.fine(0, 17, 0, n))
		}
	}
}

// P11.1: each port, of both protocols.
func TestReadPorts(t *testing.T) {
	for _, proto := range []int{6, 17} {
		size := len(seg(proto, 1))
		for i, b := range packets(proto, seg(proto, 1)) {
			want := read(proto, size)[i]
			for n := range 65536 {
				copy(b[want.Seg:], two(n))
				copy(b[want.Seg+2:], two(all-n))
				want.Tuple.Sport, want.Tuple.Dport = n, all-n
				checkRead(t, b, want)
			}
		}
	}
}

// P11.1: each value of the byte of TCP's flags, of which six bits count; UDP has none, whatever stands there.
func TestReadFlags(t *testing.T) {
	for n := range 256 {
		for i, b := range packets(6, seg(6, 4)) {
			want := read(6, 24)[i]
			want.Flags = n % 64
			checkRead(t, with(b, want.Seg+13, byte(n)), want)
		}
		for i, b := range packets(17, seg(17, 16)) {
			want := read(17, 24)[i]
			checkRead(t, with(b, want.Seg+13, byte(n)), want)
		}
	}
}

// P11.1: each byte of the addresses.
func TestReadAddrs(t *testing.T) {
	for _, proto := range []int{6, 17} {
		for i, b := range packets(proto, seg(proto, 2)) {
			plain := read(proto, len(seg(proto, 2)))[i]
			at, size := plain.Net+12, 4
			if i > 1 {
				at, size = plain.Net+8, 16
			}
			for place := range 2 * size {
				for n := range 256 {
					x, want := with(b, at+place, byte(n)), plain
					addr := &want.Tuple.Src
					if place >= size {
						addr = &want.Tuple.Dst
					}
					addr.B[place%size] = byte(n)
					if i <= 1 {
						x = slices.Concat(x[:plain.Net], summed(x[plain.Net:]))
					}
					checkRead(t, x, want)
				}
			}
		}
	}
}

// chance is a row of numbers that looks like chance, and is the same each time.
type chance uint64

func (c *chance) below(n int) int {
	*c = *c*6364136223846793005 + 1442695040888963407
	return int(uint64(*c>>33) % uint64(n))
}

// of is one of these numbers.
func (c *chance) of(list ...int) int { return list[c.below(len(list))] }

// some are up to n bytes, many of them 0 or all bits.
func (c *chance) some(n int) []byte {
	b := make([]byte, c.below(n+1))
	for i := range b {
		b[i] = byte(c.of(0, 255, c.below(256), c.below(256)))
	}
	return b
}

// body is a segment, or bytes that are nearly one.
func (c *chance) body(proto int) []byte {
	n := c.below(30)
	switch c.below(6) {
	case 0:
		return c.some(40)
	case 1:
		return tcp(4*c.below(16), c.some(40))
	case 2:
		return udp(c.below(40), c.some(40))
	}
	return seg(proto, n)
}

// frame is one of any kind: many are nearly fine.
func (c *chance) frame() []byte {
	proto := c.of(6, 17, 6, 17, 6, 17, 1, c.below(256))
	body := c.body(proto)
	b := []byte{}
	kind := c.of(0x0800, 0x86dd)
	if kind == 0x0800 {
		b = packet4(text(4*c.of(0, 0, 1, 10)), c.of(0, 0, 0, 0x4000, 0x8000, 0x2000, c.below(65536)), proto, body)
	} else {
		list := []int{}
		for range c.of(0, 0, 1, 2, 8, 9) {
			list = append(list, c.of(kinds()...))
		}
		exts, first := row(list, c.of(0, 0, 1, 2), proto)
		b = packet6(exts, first, body)
	}
	b = slices.Concat(ether(c.of(0, 0, 1, 2, 2, 2, 3), c.of(kind, kind, kind, kind, kind, 0x0806, 0x0800, 0x86dd)), b, c.some(5))
	for range c.of(0, 0, 1, 2) {
		b[c.below(len(b))] ^= 1 << c.below(8)
	}
	return b[:len(b)-c.of(0, 0, 0, c.below(5), c.below(len(b)+1))]
}

// P11.1: frames of all kinds, held against the words.
func TestReadByWords(t *testing.T) {
	c, seen := chance(11), map[int]int{}
	for range 300000 {
		b := c.frame()
		checkTold(t, b)
		seen[told(b).Kind]++
	}
	for kind := range 7 {
		if seen[kind] < 3000 {
			t.Errorf("%d is told only %d times", kind, seen[kind])
		}
	}
}

// P1, P11.1: bytes of which nothing is known, too.
func TestReadAnyBytes(t *testing.T) {
	c := chance(1)
	for range 200000 {
		b := c.some(120)
		if len(b) > 14 {
			copy(b[12:], two(c.of(0x0800, 0x86dd, 0x8100, 0x88a8)))
			b[14] = byte(c.of(0x45, 0x60, 0x4f, 0x6f))
		}
		checkTold(t, b)
	}
}

// P11.1: with any one bit of a frame turned, each frame is read as the words tell.
func TestReadEachBit(t *testing.T) {
	for _, proto := range []int{6, 17} {
		for _, b := range packets(proto, seg(proto, 3)) {
			for bit := range 8 * len(b) {
				checkTold(t, with(b, bit/8, b[bit/8]^1<<(bit%8)))
			}
		}
	}
}

// spoil overwrites bytes, with all the room behind their length.
func spoil(b []byte) {
	b = b[:cap(b)]
	for i := range b {
		b[i] = ^b[i]
	}
}

// P11.4: what is read stays, with the room behind it, which doesn't count; and what is answered doesn't hang on it any more.
func TestReadStays(t *testing.T) {
	for _, proto := range []int{6, 17} {
		for _, b := range packets(proto, seg(proto, 3)) {
			for n := range len(b) + 3 {
				whole := slices.Concat(b, text(40))
				was := slices.Clone(whole)
				want := told(slices.Clone(whole[:n]))
				got := packet.Read(whole[:n])
				if !bytes.Equal(whole, was) {
					t.Errorf("the first %d bytes: what was handed in is %x", n, whole)
				}
				spoil(whole)
				if got != want {
					t.Errorf("the first %d bytes: %v, not %v", n, got, want)
				}
			}
		}
	}
}

// P11.1: what is answered doesn't hang on what was asked ahead of it: a frame that isn't fine leaves nothing behind, nor does a fine one.
func TestReadAgain(t *testing.T) {
	for range 3 {
		for _, f := range families() {
			for _, proto := range []int{6, 17} {
				checkRead(t, f.frame(1, proto, seg(proto, 3)), f.fine(1, proto, 0, len(seg(proto, 3))))
				for kind := 1; kind <= 6; kind++ {
					checkKind(t, spoilt(f, proto, 1<<(kind-1)), kind)
				}
			}
		}
	}
}

// tuples are such of both families, with parts that are alike, and parts that may not be.
func tuples() []api.Tuple {
	l := []api.Tuple{{}, {Src: src4(), Dst: dst6(), Proto: 1, Sport: -1, Dport: 65536}, {Src: api.Addr{B: src6().B}, Dst: dst4(), Proto: math.MinInt, Sport: math.MaxInt, Dport: math.MinInt}}
	for _, proto := range []int{6, 17} {
		for _, f := range families() {
			l = append(l, api.Tuple{Src: f.src, Dst: f.dst, Proto: proto, Sport: 4000, Dport: 443})
			l = append(l, api.Tuple{Src: f.src, Dst: f.src, Proto: proto, Sport: 4000, Dport: 443})
			l = append(l, api.Tuple{Src: f.src, Dst: f.dst, Proto: proto, Sport: 443, Dport: 443})
			l = append(l, api.Tuple{Src: f.dst, Dst: f.dst, Proto: proto, Sport: 0, Dport: 0})
			l = append(l, api.Tuple{Src: f.src, Dst: f.dst, Proto: proto, Sport: 0, Dport: 65535})
		}
	}
	return l
}

// turned is what Turn is to answer, by the words.
func turned(x api.Tuple) api.Tuple {
	return api.Tuple{Src: x.Dst, Dst: x.Src, Proto: x.Proto, Sport: x.Dport, Dport: x.Sport}
}

// P11.1: tuples turned, and turned again.
func TestTurn(t *testing.T) {
	for _, x := range tuples() {
		if got := packet.Turn(x); got != turned(x) {
			t.Errorf("Turn(%v): %v", x, got)
		}
		if got := packet.Turn(packet.Turn(x)); got != x {
			t.Errorf("%v, turned twice: %v", x, got)
		}
	}
	one := api.Tuple{Src: ipv4(1, 2, 3, 4), Dst: ipv4(5, 6, 7, 8), Proto: 6, Sport: 9, Dport: 80}
	if got := packet.Turn(one); got != (api.Tuple{Src: ipv4(5, 6, 7, 8), Dst: ipv4(1, 2, 3, 4), Proto: 6, Sport: 80, Dport: 9}) {
		t.Error(got)
	}
}
