package tunnel_test

import (
	"bytes"
	"encoding/hex"
	"slices"
	"strings"
	"testing"

	"wayleave/api"
	"wayleave/tunnel"
)

// all is the greatest number of two bytes.
const all = 65535

// known is the bytes that the text tells in hexadecimal.
func known(s string) []byte {
	b, err := hex.DecodeString(strings.ReplaceAll(s, " ", ""))
	if err != nil {
		panic(err)
	}
	return b
}

// text is n bytes of which those near to each other differ.
func text(n int) []byte {
	b := make([]byte, n)
	for i := range b {
		b[i] = byte(i*i*7 + i*31 + i>>3 + 5)
	}
	return b
}

// two are the bytes of a number, big.
func two(n int) []byte { return []byte{byte(n / 256), byte(n % 256)} }

// number is that of the two bytes of b from one place on.
func number(b []byte, at int) int { return int(b[at])*256 + int(b[at+1]) }

// with is b with other bytes from one place on.
func with(b []byte, at int, to ...byte) []byte {
	b = slices.Clone(b)
	copy(b[at:], to)
	return b
}

// short is b, or the beginning of it where it is long.
func short(b []byte) []byte { return b[:min(len(b), 160)] }

// ring is all words of b, added in a ring: as a rest by 65535, which is 65535 where it would be 0.
func ring(b []byte) int {
	sum := 0
	for i, x := range b {
		sum += int(x) * (1 + 255*(1-i%2))
	}
	if sum == 0 {
		return 0
	}
	return (sum-1)%all + 1
}

func ipv4(a, b, c, d byte) api.Addr { return api.Addr{B: [16]byte{a, b, c, d}} }

func ipv6(b ...byte) api.Addr { return api.Addr{Six: true, B: [16]byte(b)} }

// Two addresses of either family.
func src4() api.Addr { return ipv4(192, 168, 0, 1) }
func dst4() api.Addr { return ipv4(192, 168, 0, 199) }
func src6() api.Addr { return ipv6(known("20 01 0d b8 01 02 03 04 05 06 07 08 09 0a 0b 0c")...) }
func dst6() api.Addr { return ipv6(known("fe 80 f1 f2 f3 f4 f5 f6 f7 f8 f9 fa fb fc fd ff")...) }

// ends are the addresses of one tunnel.
type ends struct{ src, dst api.Addr }

// tunnels are those by addresses of a family.
func tunnels(six bool) []ends {
	if six {
		none, full := ipv6(make([]byte, 16)...), ipv6(bytes.Repeat([]byte{255}, 16)...)
		return []ends{{src6(), dst6()}, {dst6(), src6()}, {none, none}, {full, none}, {none, full}, {full, full}, {src6(), src6()}, {ipv6(text(16)...), api.Addr{Six: true, B: [16]byte{15: 1}}}, {api.Addr{Six: true, B: [16]byte{10, 0, 0, 1}}, api.Addr{Six: true, B: [16]byte{4: 1}}}}
	}
	full := ipv4(255, 255, 255, 255)
	return []ends{{src4(), dst4()}, {dst4(), src4()}, {}, {full, api.Addr{}}, {api.Addr{}, full}, {full, full}, {src4(), src4()}, {ipv4(10, 0, 0, 1), ipv4(0, 0, 0, 1)}, {ipv4(1, 2, 3, 4), ipv4(5, 6, 7, 8)}}
}

// one is a tunnel of either family.
func one() []ends { return []ends{tunnels(false)[0], tunnels(true)[0]} }

// twoFamilies are addresses that aren't of one family, or of none.
func twoFamilies() []ends {
	l := []ends{}
	for i, four := range tunnels(false) {
		six := tunnels(true)[i]
		l = append(l, ends{four.src, six.dst}, ends{six.src, four.dst})
	}
	four, six := src4(), src4()
	six.Six = true
	l = append(l, ends{four, six}, ends{six, four})
	for i := 4; i < 16; i++ {
		bad := src4()
		bad.B[i] = byte(1 << (i % 8))
		l = append(l, ends{bad, dst4()}, ends{dst4(), bad}, ends{bad, bad}, ends{bad, src6()}, ends{src6(), bad})
	}
	return l
}

// ether is a link's header with so many tags, which tell what looks like types.
func ether(tags, kind int) []byte {
	b := known("02 00 00 00 00 01 02 00 00 00 00 02")
	for i := range tags {
		b = slices.Concat(b, two([]int{0x88a8, 0x8100, 0x8100}[i]), two([]int{0x0800, 0x86dd, 0x8100}[i]))
	}
	return slices.Concat(b, two(kind))
}

// summed is the IPv4 header h, or the packet, with the right checksum.
func summed(h []byte) []byte {
	h = with(h, 10, 0, 0)
	return with(h, 10, two(all-ring(h[:int(h[0])%16*4]))...)
}

// packet4 is a packet of IPv4.
func packet4(options []byte, bits, proto int, body []byte) []byte {
	total := 20 + len(options) + len(body)
	h := slices.Concat([]byte{byte(0x45 + len(options)/4), 9}, two(total), two(7), two(bits), []byte{1, byte(proto), 0, 0, 192, 168, 0, 1, 192, 168, 0, 199}, options)
	return slices.Concat(summed(h), body)
}

// packet6 is a packet of IPv6; proto tells of the first of the extensions.
func packet6(exts []byte, proto int, body []byte) []byte {
	a, b := src6(), dst6()
	return slices.Concat([]byte{0x6a, 0xbc, 0xde, 0xf0}, two(len(exts)+len(body)), []byte{byte(proto), 255}, a.B[:], b.B[:], exts, body)
}

// behind is a packet of IPv6 with extensions of 8 bytes each, of these kinds, none of them a fragment's; behind the last one of them is proto.
func behind(kinds []int, proto int, body []byte) []byte {
	kinds = append(slices.Clone(kinds), proto)
	exts := []byte{}
	for i := range len(kinds) - 1 {
		exts = append(exts, byte(kinds[i+1]), 0, 0, 6, 1, 2, 3, byte(i))
	}
	return packet6(exts, kinds[0], body)
}

// eight are extensions of all kinds, as many as there may be.
func eight() []int { return []int{0, 60, 51, 44, 43, 60, 0, 44} }

// fours are packets of IPv4 of all shapes.
func fours() [][]byte {
	l := [][]byte{packet4(nil, 0, 17, nil), packet4(nil, 0xc000, 6, text(1)), packet4(text(4), 0x4000, 17, text(26)), packet4(text(40), 0, 255, text(9)), packet4(text(40), 0, 1, nil)}
	for _, bits := range []int{0x2000, 1, 0x1fff, 0x6000, 0xffff, 0x8000} {
		l = append(l, packet4(nil, bits, 17, text(12)), packet4(text(8), bits, 4, text(12)))
	}
	// What looks like a packet within, or isn't one, counts for nothing, where the packet is wrapped.
	return append(l, packet4(nil, 0, 4, l[2]), packet4(nil, 0, 41, packet6(nil, 17, text(8))), packet4(nil, 0, 41, text(5)), packet4(nil, 0, 4, nil), packet4(nil, 0, 0, text(7)))
}

// sixes are packets of IPv6 of all shapes.
func sixes() [][]byte {
	l := [][]byte{packet6(nil, 59, nil), packet6(nil, 17, nil), packet6(nil, 6, text(1)), packet6(nil, 255, text(46))}
	for n := range 9 {
		l = append(l, behind(eight()[:n], 17, text(n)), behind(eight()[8-n:], 59, nil))
	}
	for _, kind := range []int{0, 43, 60} {
		l = append(l, packet6(slices.Concat([]byte{6, 2}, text(22)), kind, text(9)))
	}
	l = append(l, packet6(slices.Concat([]byte{6, 3}, text(18)), 51, text(9)))
	for _, bits := range []int{1, 8, 0xfff8, 0xffff, 0x100} {
		l = append(l, packet6(slices.Concat([]byte{17, 9}, two(bits), text(4)), 44, text(12)), packet6(slices.Concat([]byte{41, 0}, two(bits), text(4)), 44, packet6(nil, 17, text(8))))
	}
	return append(l, packet6(nil, 4, fours()[2]), packet6(nil, 41, l[3]), packet6(nil, 41, text(5)), packet6(nil, 4, nil))
}

// frame is one that carries the packet, with so many tags.
func frame(tags int, packet []byte) []byte {
	kind := 0x0800
	if packet[0]/16 == 6 {
		kind = 0x86dd
	}
	return slices.Concat(ether(tags, kind), packet)
}

// frames are those of all packets, with each number of tags.
func frames() [][]byte {
	l := [][]byte{}
	for _, p := range slices.Concat(fours(), sixes()) {
		for tags := range 3 {
			l = append(l, frame(tags, p))
		}
	}
	return l
}

// few are frames of both families, with what they can have and without.
func few() [][]byte {
	return [][]byte{frame(0, packet4(nil, 0x4000, 17, text(26))), frame(1, packet4(text(8), 0, 6, text(21))), frame(2, packet6(nil, 6, text(20))), frame(0, behind(eight()[:2], 17, text(9)))}
}

// notFour are bytes that chapter 8 refuses, for each reason.
func notFour() [][]byte {
	good := packet4(nil, 0, 17, text(9))
	l := [][]byte{nil, good[:1], good[:19], make([]byte, 20), bytes.Repeat([]byte{255}, 90)}
	for form := range 16 {
		if form != 4 {
			l = append(l, summed(with(good, 0, byte(16*form+5))))
		}
		if form < 5 {
			l = append(l, summed(with(good, 0, byte(0x40+form))))
		}
	}
	l = append(l, with(good, 0, 0x48), with(good[:20], 0, 0x46), with(good, 0, 0x4f))
	options := packet4(text(8), 0, 17, nil)
	l = append(l, summed(with(options, 2, 0, 27)), summed(with(options, 2, 0, 20)), summed(with(good, 2, 0, 19)), summed(with(good, 2, 0, 0)))
	l = append(l, good[:len(good)-1], good[:20], summed(with(good, 2, 0, 30)), summed(with(good, 2, 255, 255)))
	for i := 1; i < 28; i++ {
		l = append(l, with(packet4(text(8), 0, 17, text(9)), i, ^l[len(l)-1][0]+byte(i)))
	}
	return append(l, packet6(nil, 17, good))
}

// notSix are bytes that chapter 9 refuses, for each reason.
func notSix() [][]byte {
	good := packet6(nil, 17, text(9))
	l := [][]byte{nil, good[:1], good[:39], make([]byte, 40), bytes.Repeat([]byte{255}, 90), good[:48], with(good, 5, 10), with(good, 4, 255, 255)}
	for form := range 16 {
		if form != 6 {
			l = append(l, with(good, 0, byte(16*form)))
		}
	}
	for _, kind := range []int{0, 43, 44, 51, 60} {
		for n := range 8 {
			l = append(l, packet6(nil, kind, []byte{17, 0, 0, 0, 0, 0, 0, 0}[:n]), behind([]int{60}, kind, []byte{17, 0, 0, 0, 0, 0, 0, 0}[:n]))
		}
		l = append(l, behind(eight(), kind, text(80)))
	}
	for _, kind := range []int{0, 43, 60} {
		l = append(l, packet6([]byte{17, 1}, kind, make([]byte, 13)))
	}
	return append(l, packet6([]byte{17, 1}, 51, make([]byte, 9)), packet6([]byte{17, 255}, 51, text(900)), packet4(text(20), 0, 17, good))
}

// notIp are frames that have no IP packet.
func notIp() [][]byte {
	l := [][]byte{nil, {}, {8}, make([]byte, 13), make([]byte, 14), make([]byte, 100), bytes.Repeat([]byte{255}, 100)}
	for tags := range 3 {
		for _, b := range [][]byte{packet4(nil, 0, 4, fours()[2]), packet6(nil, 41, sixes()[3])} {
			for n := range 14 + 4*tags {
				l = append(l, frame(tags, b)[:n])
			}
			for _, kind := range []int{0, 1, 0x07ff, 0x0801, 0x0806, 0x0008, 0x86dc, 0x86de, 0xdd86, 0x8847, 0xffff, 4, 41} {
				l = append(l, slices.Concat(ether(tags, kind), b))
			}
			l = append(l, slices.Concat(ether(3, number(frame(0, b), 12)), b))
		}
		for _, b := range notFour() {
			l = append(l, slices.Concat(ether(tags, 0x0800), b))
		}
		for _, b := range notSix() {
			l = append(l, slices.Concat(ether(tags, 0x86dd), b))
		}
	}
	return l
}

// ip is what counts of an IP packet.
type ip struct {
	six                bool
	head, total, proto int
	frag               bool
}

// kind is the Type of the packet's family.
func kind(six bool) int {
	if six {
		return 0x86dd
	}
	return 0x0800
}

// toldLink is at which byte the link's header ends, and the Type; 0 and 0, if there is none.
func toldLink(b []byte) (int, int) {
	for tags := range 3 {
		at := 12 + 4*tags
		if len(b) < at+2 {
			return 0, 0
		}
		if kind := number(b, at); kind != 0x8100 && kind != 0x88a8 {
			return at + 2, kind
		}
	}
	return 0, 0
}

func toldFour(b []byte) (ip, bool) {
	if len(b) < 20 || b[0]/16 != 4 {
		return ip{}, false
	}
	h := ip{head: int(b[0]) % 16 * 4, total: number(b, 2), proto: int(b[9]), frag: number(b, 6)%0x4000 != 0}
	return h, h.head >= 20 && h.head <= len(b) && h.total >= h.head && h.total <= len(b) && ring(b[:h.head]) == all
}

func toldSix(b []byte) (ip, bool) {
	if len(b) < 40 || b[0]/16 != 6 {
		return ip{}, false
	}
	h := ip{six: true, head: 40, total: 40 + number(b, 4), proto: int(b[6])}
	if h.total > len(b) {
		return ip{}, false
	}
	units := map[int]int{0: 8, 43: 8, 60: 8, 51: 4, 44: 0}
	for exts := 0; !h.frag; exts++ {
		unit, is := units[h.proto]
		if !is {
			break
		}
		x := b[h.head:h.total]
		if exts == 8 || len(x) < 8 || 8+unit*int(x[1]) > len(x) {
			return ip{}, false
		}
		h.frag = h.proto == 44 && (x[2] != 0 || x[3]&0xf9 != 0)
		h.head += 8 + unit*int(x[1])
		h.proto = int(x[0])
	}
	return h, true
}

// toldPacket is the frame's IP packet, and at which byte of the frame that begins.
func toldPacket(b []byte) (int, ip, bool) {
	at, kind := toldLink(b)
	h, ok := ip{}, false
	switch kind {
	case 0x0800:
		h, ok = toldFour(b[at:])
	case 0x86dd:
		h, ok = toldSix(b[at:])
	}
	return at, h, ok
}

// isAddr tells whether the address is of a family at all.
func isAddr(a api.Addr) bool { return a.Six || [12]byte(a.B[4:]) == [12]byte{} }

// toldHeader is the header in which size bytes are wrapped, byte by byte.
func toldHeader(x ends, proto byte, size int) []byte {
	if x.src.Six {
		return slices.Concat([]byte{0x60, 0, 0, 0}, two(size), []byte{proto, 64}, x.src.B[:], x.dst.B[:])
	}
	return summed(slices.Concat([]byte{0x45, 0}, two(20+size), []byte{0, 0, 0x40, 0, 64, proto, 0, 0}, x.src.B[:4], x.dst.B[:4]))
}

// toldWrap is what Wrap is to answer, by the words of the chapter.
func toldWrap(b []byte, x ends) ([]byte, api.Errno) {
	at, h, ok := toldPacket(b)
	if !ok {
		return nil, api.ErrForm
	}
	if x.src.Six != x.dst.Six || !isAddr(x.src) || !isAddr(x.dst) {
		return nil, api.ErrArg
	}
	most := map[bool]int{false: 65515, true: 65535}[x.src.Six]
	if h.total > most {
		return nil, api.ErrLong
	}
	proto := map[bool]byte{false: 4, true: 41}[h.six]
	return slices.Concat(b[:at-2], two(kind(x.src.Six)), toldHeader(x, proto, h.total), b[at:at+h.total]), api.OK
}

// toldUnwrap is what Unwrap is to answer.
func toldUnwrap(b []byte) ([]byte, api.Errno) {
	at, h, ok := toldPacket(b)
	if !ok || h.frag {
		return nil, api.ErrForm
	}
	load := b[at+h.head : at+h.total]
	within, ok := ip{}, false
	switch h.proto {
	case 4:
		within, ok = toldFour(load)
	case 41:
		within, ok = toldSix(load)
	}
	if !ok {
		return nil, api.ErrForm
	}
	return slices.Concat(b[:at-2], two(kind(within.six)), load[:within.total]), api.OK
}

// wrapped is what comes of a frame that can be wrapped.
func wrapped(t *testing.T, b []byte, x ends) []byte {
	t.Helper()
	got, e := tunnel.Wrap(b, x.src, x.dst)
	if e != api.OK {
		t.Fatalf("Wrap(%x, %v), of %d bytes: error %d", short(b), x, len(b), e)
	}
	return got
}

// unwrapped is what comes of a frame that can be unwrapped.
func unwrapped(t *testing.T, b []byte) []byte {
	t.Helper()
	got, e := tunnel.Unwrap(b)
	if e != api.OK {
		t.Fatalf("Unwrap(%x), of %d bytes: error %d", short(b), len(b), e)
	}
	return got
}

// checkWrap holds what Wrap answers against the words, byte by byte.
func checkWrap(t *testing.T, b []byte, x ends) {
	t.Helper()
	got, e := tunnel.Wrap(b, x.src, x.dst)
	if want, we := toldWrap(b, x); e != we || !bytes.Equal(got, want) {
		t.Errorf("Wrap(%x, %v), of %d bytes: %x, %d, not %x, %d", short(b), x, len(b), short(got), e, short(want), we)
	}
}

// checkUnwrap holds what Unwrap answers against the words, byte by byte.
func checkUnwrap(t *testing.T, b []byte) {
	t.Helper()
	got, e := tunnel.Unwrap(b)
	if want, we := toldUnwrap(b); e != we || !bytes.Equal(got, want) {
		t.Errorf("Unwrap(%x), of %d bytes: %x, %d, not %x, %d", short(b), len(b), short(got), e, short(want), we)
	}
}

// checkNoWrap holds that Wrap answers the error, and nothing beside it.
func checkNoWrap(t *testing.T, b []byte, x ends, want api.Errno) {
	t.Helper()
	if got, e := tunnel.Wrap(b, x.src, x.dst); e != want || len(got) != 0 {
		t.Errorf("Wrap(%x, %v), of %d bytes: %x, %d, not %d", short(b), x, len(b), short(got), e, want)
	}
}

// checkNoUnwrap holds that Unwrap answers ErrForm, and nothing beside it.
func checkNoUnwrap(t *testing.T, b []byte) {
	t.Helper()
	if got, e := tunnel.Unwrap(b); e != api.ErrForm || len(got) != 0 {
		t.Errorf("Unwrap(%x), of %d bytes: %x, %d", short(b), len(b), short(got), e)
	}
}

// checkBack holds that Unwrap answers want.
func checkBack(t *testing.T, b, want []byte) {
	t.Helper()
	if got := unwrapped(t, b); !bytes.Equal(got, want) {
		t.Errorf("Unwrap(%x), of %d bytes: %x, not %x", short(b), len(b), short(got), short(want))
	}
}

// chance is a row of numbers that looks like chance, and is the same each time.
type chance uint64

func (c *chance) below(n int) int {
	*c = *c*6364136223846793005 + 1442695040888963407
	return int(uint64(*c>>33) % uint64(n))
}

// of is one of these numbers.
func (c *chance) of(list ...int) int { return list[c.below(len(list))] }

// spoil overwrites bytes, with all the room behind their length.
func spoil(b []byte) {
	b = b[:cap(b)]
	for i := range b {
		b[i] = ^b[i]
	}
}
