package tunnel_test

import (
	"bytes"
	"slices"
	"testing"

	"wayleave/api"
	"wayleave/four"
	"wayleave/inet"
	"wayleave/link"
	"wayleave/packet"
	"wayleave/six"
)

// known4, known6 are packets of UDP that are known.
const (
	known4 = "45 00 00 1f 00 00 40 00 40 11 2a bb 01 02 03 04 05 06 07 08 0f a0 00 35 00 0b 1b 8d 61 62 63"
	known6 = "60 00 00 00 00 0a 11 40 20 01 0d b8 01 02 03 04 05 06 07 08 09 0a 0b 0c fe 80 f1 f2 f3 f4 f5 f6 f7 f8 f9 fa fb fc fd ff 00 35 00 07 00 0a 77 ff 6f 6b"
)

// The samples are what they are taken for: packets, and for each reason what is none.
func TestSamples(t *testing.T) {
	for _, b := range fours() {
		if h, e := four.Read(b); e != api.OK || h.Total != len(b) {
			t.Errorf("%x: %v, %d", b, h, e)
		}
	}
	for _, b := range sixes() {
		if h, e := six.Read(b); e != api.OK || h.Total != len(b) {
			t.Errorf("%x: %v, %d", b, h, e)
		}
	}
	met := map[api.Errno]int{}
	for _, b := range notFour() {
		_, e := four.Read(b)
		met[e]++
	}
	if met[api.OK] > 0 || met[api.ErrEnd] == 0 || met[api.ErrForm] == 0 || met[api.ErrSum] == 0 {
		t.Errorf("what chapter 8 refuses: %v", met)
	}
	met = map[api.Errno]int{}
	for _, b := range notSix() {
		_, e := six.Read(b)
		met[e]++
	}
	if met[api.OK] > 0 || met[api.ErrEnd] == 0 || met[api.ErrForm] == 0 || met[api.ErrLong] == 0 {
		t.Errorf("what chapter 9 refuses: %v", met)
	}
	kinds := map[int]int{}
	for _, b := range notIp() {
		kinds[packet.Read(b).Kind]++
	}
	if len(kinds) != 3 || kinds[api.Runt] == 0 || kinds[api.Alien] == 0 || kinds[api.BadNet] == 0 {
		t.Errorf("frames without IP packets, by their kinds: %v", kinds)
	}
}

// P13.1, P13.2: frames that are known, wrapped, all four ways, and unwrapped; of no tag, one and two.
func TestKnown(t *testing.T) {
	by4 := ends{ipv4(10, 0, 0, 1), ipv4(10, 0, 0, 2)}
	by6 := ends{ipv6(known("20 01 0d b8 00 00 00 00 00 00 00 00 00 00 00 01")...), ipv6(known("20 01 0d b8 00 00 00 00 00 00 00 00 00 00 00 02")...)}
	addrs6 := "20 01 0d b8 00 00 00 00 00 00 00 00 00 00 00 01 20 01 0d b8 00 00 00 00 00 00 00 00 00 00 00 02"
	for _, head := range []string{"02 00 00 00 00 01 02 00 00 00 00 02", "02 00 00 00 00 01 02 00 00 00 00 02 81 00 00 07", "02 00 00 00 00 01 02 00 00 00 00 02 88 a8 ff ff 81 00 08 00"} {
		for _, x := range []struct {
			by       ends
			was, now string
		}{
			{by4, "08 00 " + known4, "08 00 45 00 00 33 00 00 40 00 40 04 26 c5 0a 00 00 01 0a 00 00 02 " + known4},
			{by6, "08 00 " + known4, "86 dd 60 00 00 00 00 1f 04 40 " + addrs6 + known4},
			{by4, "86 dd " + known6, "08 00 45 00 00 46 00 00 40 00 40 29 26 8d 0a 00 00 01 0a 00 00 02 " + known6},
			{by6, "86 dd " + known6, "86 dd 60 00 00 00 00 32 29 40 " + addrs6 + known6},
		} {
			was, now := known(head+x.was), known(head+x.now)
			for _, tail := range [][]byte{nil, {0}, text(60)} {
				if got := wrapped(t, slices.Concat(was, tail), x.by); !bytes.Equal(got, now) {
					t.Errorf("%x by %v: %x, not %x", was, x.by, got, now)
				}
				checkBack(t, slices.Concat(now, tail), was)
			}
		}
	}
}

// P13.1: the chapter's example.
func TestExample(t *testing.T) {
	b := frame(0, packet4(nil, 0, 17, text(26)))
	if len(b) != 60 {
		t.Fatalf("a frame of %d bytes", len(b))
	}
	for _, x := range tunnels(false) {
		if got := wrapped(t, b, x); len(got) != 80 {
			t.Errorf("wrapped it has %d bytes", len(got))
		}
	}
	for _, x := range tunnels(true) {
		if got := wrapped(t, b, x); len(got) != 100 {
			t.Errorf("wrapped by IPv6 it has %d bytes", len(got))
		}
	}
}

// P13.1: frames of all shapes, wrapped from all addresses to others, each byte.
func TestWrap(t *testing.T) {
	for _, b := range frames() {
		for _, six := range []bool{false, true} {
			for _, x := range tunnels(six) {
				wrapped(t, b, x)
				checkWrap(t, b, x)
			}
		}
	}
}

// P13.1: what is laid is read by the chapters of its parts: the link's header but for its Type, the new header, and the packet.
func TestParts(t *testing.T) {
	for _, b := range frames() {
		l, _ := link.Read(b)
		proto := map[int]int{api.TypeFour: api.ProtoFour, api.TypeSix: api.ProtoSix}[l.Type]
		size := len(b) - l.At
		for _, six := range []bool{false, true} {
			for _, x := range tunnels(six) {
				got := wrapped(t, b, x)
				is, e := link.Read(got)
				if e != api.OK || is.Dst != l.Dst || is.Src != l.Src || !slices.Equal(is.Tags, l.Tags) || is.At != l.At || is.Type != kind(six) {
					t.Errorf("the link's header %v became %v, %d", l, is, e)
				}
				at := l.At + checkHead(t, got[l.At:], x, proto, size)
				if !bytes.Equal(got[at:], b[l.At:]) {
					t.Errorf("the packet %x became %x", b[l.At:], got[at:])
				}
			}
		}
	}
}

// checkHead holds that b begins with a header by which size bytes of the protocol go through the tunnel, and answers how many bytes it has.
func checkHead(t *testing.T, b []byte, x ends, proto, size int) int {
	t.Helper()
	if x.src.Six {
		want := api.Six{Head: 40, Total: 40 + size, Hop: 64, Proto: proto, Src: x.src, Dst: x.dst}
		if h, e := six.Read(b); e != api.OK || h != want || !bytes.Equal(b[:4], []byte{0x60, 0, 0, 0}) {
			t.Errorf("%x: %v, %d, not %v", short(b), h, e, want)
		}
		return 40
	}
	want := api.Four{Head: 20, Total: 20 + size, Keep: true, Ttl: 64, Proto: proto, Src: x.src, Dst: x.dst}
	if h, e := four.Read(b); e != api.OK || h != want || !inet.Right(b[:20]) || b[6] != 0x40 {
		t.Errorf("%x: %v, %d, not %v", short(b), h, e, want)
	}
	return 20
}

// P13.1: each byte of both addresses, with each value.
func TestEachAddr(t *testing.T) {
	for _, b := range few() {
		for _, x := range one() {
			for i := range map[bool]int{false: 4, true: 16}[x.src.Six] {
				for n := range 256 {
					y := x
					y.src.B[i], y.dst.B[i] = byte(n), byte(255-n)
					wrapped(t, b, y)
					checkWrap(t, b, y)
				}
			}
		}
	}
}

// P13.1: packets of each length up to some, and so new headers with many checksums.
func TestEachLength(t *testing.T) {
	for n := range 1600 {
		for _, p := range [][]byte{packet4(nil, 0, 17, text(n)), packet6(nil, 17, text(n))} {
			for _, x := range one() {
				wrapped(t, frame(n%3, p), x)
				checkWrap(t, frame(n%3, p), x)
			}
		}
	}
}

// P13.1: frames that have no IP packet, whatever the addresses are.
func TestNoPacket(t *testing.T) {
	for _, b := range notIp() {
		for _, x := range slices.Concat(one(), twoFamilies()[:2]) {
			checkNoWrap(t, b, x, api.ErrForm)
		}
	}
}

// P13.1: a frame that ends too early, with what it lacks in the room behind its length.
func TestCut(t *testing.T) {
	for _, b := range frames() {
		for n := range len(b) {
			checkNoWrap(t, b[:n], one()[n%2], api.ErrForm)
		}
	}
}

// P13.1: each Type that is neither family's, behind no tag, one and two.
func TestEachType(t *testing.T) {
	for n := range 65536 {
		for _, p := range [][]byte{fours()[0], sixes()[3]} {
			b := slices.Concat(ether(n%3, n), p)
			checkWrap(t, b, one()[0])
			if n != 0x0800 && n != 0x86dd {
				checkNoWrap(t, b, one()[1], api.ErrForm)
			}
		}
	}
}

// P13.1: addresses of two families, and those of none.
func TestTwoFamilies(t *testing.T) {
	for _, b := range frames() {
		for _, x := range twoFamilies() {
			checkNoWrap(t, b, x, api.ErrArg)
		}
	}
}

// P13.1: an IPv4 address with a byte behind the fourth, each of the twelve, as the first one and as the second one, with each value.
func TestBehindFourth(t *testing.T) {
	for _, b := range few() {
		for i := 4; i < 16; i++ {
			for n := 1; n < 256; n++ {
				for _, bad := range []api.Addr{src4(), {}, ipv4(255, 255, 255, 255)} {
					bad.B[i] = byte(n)
					for _, x := range []ends{{bad, dst4()}, {dst4(), bad}, {bad, bad}, {bad, dst6()}, {dst6(), bad}} {
						checkNoWrap(t, b, x, api.ErrArg)
					}
				}
			}
		}
	}
}

// P13.1: which error comes first, where two of them hold.
func TestFirstError(t *testing.T) {
	long4, long6 := frame(0, packet4(nil, 0, 17, text(65516-20))), frame(2, packet6(nil, 17, text(65536-40)))
	for _, x := range twoFamilies() {
		checkNoWrap(t, long4, x, api.ErrArg)
		checkNoWrap(t, long6, x, api.ErrArg)
		checkNoWrap(t, nil, x, api.ErrForm)
		checkNoWrap(t, long4[:len(long4)-1], x, api.ErrForm)
		checkNoWrap(t, with(long6, 22, 0x50), x, api.ErrForm)
		checkNoWrap(t, with(long4, 12, 0x86, 0xdd), x, api.ErrForm)
	}
	for _, x := range one() {
		checkNoWrap(t, with(long4, 14+19, long4[14+19]^1), x, api.ErrForm)
		checkNoWrap(t, long6[:len(long6)-1], x, api.ErrForm)
	}
}

// P13.1: bytes behind the IP packet, which go, whatever they are, and as many as there can be.
func TestBehind(t *testing.T) {
	for _, b := range frames() {
		for _, x := range one() {
			want := wrapped(t, b, x)
			for _, tail := range [][]byte{{0}, {255}, text(46), frame(0, fours()[2]), text(70000)} {
				if got := wrapped(t, slices.Concat(b, tail), x); !bytes.Equal(got, want) {
					t.Errorf("%x, and %d bytes: %x, not %x", b, len(tail), short(got), short(want))
				}
			}
		}
	}
}

// longs are frames of both families with IP packets of so many bytes, with and without what is in the way, and bytes behind.
func longs(size int) [][]byte {
	l := [][]byte{}
	if size <= 65535 {
		l = append(l, frame(0, packet4(nil, 0, 17, text(size-20))), frame(2, packet4(text(40), 0x2000, 6, text(size-60))))
	}
	l = append(l, frame(0, packet6(nil, 17, text(size-40))), frame(1, behind(eight(), 6, text(size-40-64))))
	for _, b := range l {
		l = append(l, slices.Concat(b, text(9)))
	}
	return l
}

// P13.1: the longest packets that can be wrapped, and longer ones.
func TestLongest(t *testing.T) {
	by4, by6 := one()[0], one()[1]
	for _, size := range []int{65000, 65514, 65515} {
		for _, b := range longs(size) {
			wrapped(t, b, by4)
			checkWrap(t, b, by4)
		}
	}
	for _, size := range []int{65516, 65517, 65535, 65536, 65575} {
		for _, b := range longs(size) {
			checkNoWrap(t, b, by4, api.ErrLong)
		}
	}
	for _, size := range []int{65515, 65516, 65534, 65535} {
		for _, b := range longs(size) {
			wrapped(t, b, by6)
			checkWrap(t, b, by6)
		}
	}
	for _, size := range []int{65536, 65537, 65575} {
		for _, b := range longs(size) {
			checkNoWrap(t, b, by6, api.ErrLong)
		}
	}
}

// P13.1: no more counts for the length than the IP packet: neither tags nor what is behind.
func TestLongBehind(t *testing.T) {
	for i, b := range [][]byte{frame(2, packet4(nil, 0, 17, text(65515-20))), frame(2, packet6(nil, 17, text(65535-40)))} {
		for _, n := range []int{0, 1, 20, 40, 5000} {
			wrapped(t, slices.Concat(b, text(n)), one()[i])
			checkWrap(t, slices.Concat(b, text(n)), one()[i])
		}
	}
}

// P13.1: with any one bit of a frame turned it is wrapped if it has an IP packet still, and else refused.
func TestEachBit(t *testing.T) {
	for _, b := range few() {
		for bit := range 8 * len(b) {
			for _, x := range one() {
				checkWrap(t, with(b, bit/8, b[bit/8]^1<<(bit%8)), x)
			}
		}
	}
}
