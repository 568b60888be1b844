package packet_test

import (
	"bytes"
	"math"
	"slices"
	"testing"

	"wayleave/api"
	"wayleave/packet"
)

// tagged is a link's header with so many tags; its Type and At count for nothing.
func tagged(tags int) api.Link {
	l := api.Link{Dst: [6]byte{2, 0, 0, 0, 0, 1}, Src: [6]byte{2, 0, 0, 0, 0, 2}, Type: 99, At: 7}
	l.Tags = []api.Tag{{Type: 0x88a8, Tci: 0x0800}, {Type: 0x8100, Tci: 0x86dd}, {Type: 0x8100, Tci: 0x8100}}[:tags]
	return l
}

// flow4 and flow6 are tuples of either family.
func flow4(proto int) api.Tuple {
	return api.Tuple{Src: src4(), Dst: dst4(), Proto: proto, Sport: 4000, Dport: 443}
}

func flow6(proto int) api.Tuple {
	return api.Tuple{Src: src6(), Dst: dst6(), Proto: proto, Sport: 4000, Dport: 443}
}

// flows are tuples of both families and both protocols: among them such with all bits 0 or 1, and with parts that are alike.
func flows() []api.Tuple {
	zero, ones := make([]byte, 16), bytes.Repeat([]byte{255}, 16)
	l := []api.Tuple{}
	for _, proto := range []int{6, 17} {
		l = append(l, flow4(proto), flow6(proto), turned(flow4(proto)), turned(flow6(proto)))
		l = append(l, api.Tuple{Proto: proto}, api.Tuple{Src: ipv6(zero...), Dst: ipv6(zero...), Proto: proto})
		l = append(l, api.Tuple{Src: ipv4(255, 255, 255, 255), Dst: ipv4(255, 255, 255, 255), Proto: proto, Sport: all, Dport: all})
		l = append(l, api.Tuple{Src: ipv6(ones...), Dst: ipv6(ones...), Proto: proto, Sport: all, Dport: all})
		l = append(l, api.Tuple{Src: src4(), Dst: src4(), Proto: proto, Sport: 1, Dport: 256}, api.Tuple{Src: dst6(), Dst: dst6(), Proto: proto, Sport: 256, Dport: 1})
	}
	return l
}

// pseudo is the pseudo header of a segment of so many bytes.
func pseudo(t api.Tuple, size int) []byte {
	if t.Src.Six {
		return slices.Concat(t.Src.B[:], t.Dst.B[:], []byte{0, 0}, two(size), []byte{0, 0, 0, byte(t.Proto)})
	}
	return slices.Concat(t.Src.B[:4], t.Dst.B[:4], []byte{0, byte(t.Proto)}, two(size))
}

// bare is a segment whose checksum is 0; worked is the one that is worked out of it.
func bare(t api.Tuple, flags int, load []byte) []byte {
	ports := slices.Concat(two(t.Sport), two(t.Dport))
	if t.Proto == 6 {
		return slices.Concat(ports, []byte{0, 0, 0, 0, 0, 0, 0, 0, 0x50, byte(flags), 0, 0, 0, 0, 0, 0}, load)
	}
	return slices.Concat(ports, two(8+len(load)), []byte{0, 0}, load)
}

func worked(t api.Tuple, b []byte) int { return all - ring(slices.Concat(pseudo(t, len(b)), b)) }

// laid is the frame that Make is to answer, by the words.
func laid(l api.Link, t api.Tuple, flags int, load []byte) []byte {
	b := bare(t, flags, load)
	sum := worked(t, b)
	if t.Proto == 17 && sum == 0 {
		sum = all
	}
	b = with(b, map[int]int{6: 16, 17: 6}[t.Proto], two(sum)...)
	head := slices.Concat(l.Dst[:], l.Src[:])
	for _, tag := range l.Tags {
		head = slices.Concat(head, two(tag.Type), two(tag.Tci))
	}
	if t.Src.Six {
		return slices.Concat(head, []byte{0x86, 0xdd, 0x60, 0, 0, 0}, two(len(b)), []byte{byte(t.Proto), 64}, t.Src.B[:], t.Dst.B[:], b)
	}
	h := slices.Concat([]byte{0x45, 0}, two(20+len(b)), []byte{0, 0, 0x40, 0, 64, byte(t.Proto), 0, 0}, t.Src.B[:4], t.Dst.B[:4])
	return slices.Concat(head, []byte{8, 0}, summed(h), b)
}

// places are what a frame that was made is read as.
func places(l api.Link, t api.Tuple, flags int, load []byte) api.Packet {
	p := api.Packet{Tuple: t, Flags: flags, Net: 14 + 4*len(l.Tags)}
	p.Seg = p.Net + 20
	if t.Src.Six {
		p.Seg = p.Net + 40
	}
	p.End = p.Seg + 8 + len(load)
	if t.Proto == 6 {
		p.End = p.Seg + 20 + len(load)
	}
	return p
}

// checkMake holds what Make answers against the words, each byte, and that it is read as fine.
func checkMake(t *testing.T, l api.Link, x api.Tuple, flags int, load []byte) {
	t.Helper()
	b, e := packet.Make(l, x, flags, load)
	if want := laid(l, x, flags, load); e != api.OK || !bytes.Equal(b, want) {
		t.Errorf("Make(%v, %v, %d, %x), of %d bytes: %x, %d, not %x", l, x, flags, short(load), len(load), short(b), e, short(want))
	}
	checkRead(t, b, places(l, x, flags, load))
}

// checkRefused holds that Make answers the error, and nothing beside it.
func checkRefused(t *testing.T, l api.Link, x api.Tuple, flags int, load []byte, want api.Errno) {
	t.Helper()
	if b, e := packet.Make(l, x, flags, load); e != want || len(b) != 0 {
		t.Errorf("Make(%v, %v, %d, %x), of %d bytes: %x, %d, not %d", l, x, flags, short(load), len(load), short(b), e, want)
	}
}

// P11.2: frames that are known.
func TestMakeKnown(t *testing.T) {
	head, four, six := "02 00 00 00 00 01 02 00 00 00 00 02 ", "c0 a8 00 01 c0 a8 00 c7 ", "20 01 0d b8 01 02 03 04 05 06 07 08 09 0a 0b 0c fe 80 f1 f2 f3 f4 f5 f6 f7 f8 f9 fa fb fc fd ff "
	vlan, both := tagged(1), tagged(2)
	vlan.Tags[0] = api.Tag{Type: api.TagVlan, Tci: 7}
	both.Tags[0], both.Tags[1] = api.Tag{Type: api.TagService, Tci: 0x1234}, api.Tag{Type: api.TagVlan, Tci: 7}
	for _, x := range []struct {
		l              api.Link
		src, dst       api.Addr
		proto          int
		sport, dport   int
		flags          int
		load, expected string
	}{
		{tagged(0), src4(), dst4(), 6, 4000, 443, api.Syn | api.Ack, "6c 6f 61 64", head + "08 00 45 00 00 2c 00 00 40 00 40 06 b8 b3 " + four + "0f a0 01 bb 00 00 00 00 00 00 00 00 50 12 00 00 4e 87 00 00 6c 6f 61 64"},
		{vlan, src4(), dst4(), 17, 53, 65535, 0, "61 62 63", head + "81 00 00 07 08 00 45 00 00 1f 00 00 40 00 40 11 b8 b5 " + four + "00 35 ff ff 00 0b b9 27 61 62 63"},
		{both, src6(), dst6(), 6, 65535, 0, 63, "", head + "88 a8 12 34 81 00 00 07 86 dd 60 00 00 00 00 14 06 40 " + six + "ff ff 00 00 00 00 00 00 00 00 00 00 50 3f 00 00 97 72 00 00"},
		{tagged(0), src6(), dst6(), 17, 1, 2, 0, "68 65 6c 6c 6f", head + "86 dd 60 00 00 00 00 0d 11 40 " + six + "00 01 00 02 00 0d a3 cb 68 65 6c 6c 6f"},
		{tagged(0), src4(), dst4(), 17, 9, 10, 0, "7d ae", head + "08 00 45 00 00 1e 00 00 40 00 40 11 b8 b6 " + four + "00 09 00 0a 00 0a ff ff 7d ae"},
		{tagged(0), src6(), dst6(), 17, 9, 10, 0, "e7 93", head + "86 dd 60 00 00 00 00 0a 11 40 " + six + "00 09 00 0a 00 0a ff ff e7 93"},
	} {
		b, e := packet.Make(x.l, api.Tuple{Src: x.src, Dst: x.dst, Proto: x.proto, Sport: x.sport, Dport: x.dport}, x.flags, known(x.load))
		if e != api.OK || !bytes.Equal(b, known(x.expected)) {
			t.Errorf("%x, %d, not %s", b, e, x.expected)
		}
	}
}

// P11.2, P11.3: tuples of all kinds, with tags and without, with loads of an odd and an even number of bytes, and none.
func TestMakeByWords(t *testing.T) {
	for tags := range 3 {
		for _, x := range flows() {
			for _, load := range [][]byte{nil, {}, {0}, {7}, {255, 255}, text(3), text(4), text(255), text(1460), make([]byte, 100), bytes.Repeat([]byte{255}, 1001)} {
				checkMake(t, tagged(tags), x, 0, load)
				if x.Proto == 6 {
					checkMake(t, tagged(tags), x, api.Ack|api.Psh, load)
				}
			}
		}
	}
	checkMake(t, api.Link{}, flow4(6), 0, nil)
	checkMake(t, api.Link{Tags: []api.Tag{}}, flow6(17), 0, nil)
}

// P11.2: whatever Type and At the link's header tells.
func TestMakeWhateverType(t *testing.T) {
	for _, kind := range []int{math.MinInt, -1, 0, 1, 0x0800, 0x0801, 0x86dd, 0x86dc, 0x8100, 0x88a8, 65535, 65536, 0x0800 + 65536, math.MaxInt} {
		for tags := range 3 {
			for _, x := range flows() {
				l := tagged(tags)
				l.Type, l.At = kind, -kind
				checkMake(t, l, x, 0, text(3))
			}
		}
	}
}

// P11.2: each byte of the link's header, and the tags that may be.
func TestMakeLink(t *testing.T) {
	for n := range 256 {
		for at := range 12 {
			l := tagged(at % 3)
			if at < 6 {
				l.Dst[at] = byte(n)
			} else {
				l.Src[at-6] = byte(n)
			}
			checkMake(t, l, flow4(6), 0, nil)
			checkMake(t, l, flow6(17), 0, nil)
		}
	}
	for _, kind := range []int{0x8100, 0x88a8} {
		for _, tci := range []int{0, 1, 255, 256, 0x8100, 65535} {
			one, other := api.Tag{Type: kind, Tci: tci}, api.Tag{Type: 0x8100, Tci: 9}
			for _, tags := range [][]api.Tag{{one}, {one, other}, {other, one}, {one, one}} {
				for _, x := range flows() {
					l := tagged(0)
					l.Tags = tags
					checkMake(t, l, x, 0, text(2))
				}
			}
		}
	}
}

// P11.2: tags that may not be, and one more than may be.
func TestMakeWrongLink(t *testing.T) {
	good := api.Tag{Type: 0x8100, Tci: 9}
	lists := [][]api.Tag{{good, good, good}, slices.Repeat([]api.Tag{good}, 4), slices.Repeat([]api.Tag{good}, 100)}
	for _, bad := range []api.Tag{{}, {Type: 0x0800, Tci: 9}, {Type: 0x86dd}, {Type: 0x8101}, {Type: 0x88a7}, {Type: -1}, {Type: 0x8100 + 65536}, {Type: 0x8100, Tci: -1}, {Type: 0x8100, Tci: 65536}, {Type: 0x88a8, Tci: math.MinInt}, {Type: 0x88a8, Tci: math.MaxInt}} {
		lists = append(lists, []api.Tag{bad}, []api.Tag{good, bad}, []api.Tag{bad, good}, []api.Tag{bad, bad})
	}
	for _, tags := range lists {
		for _, x := range flows() {
			for _, kind := range []int{99, 0x0800, 0x86dd, 0x8100} {
				checkRefused(t, api.Link{Tags: tags, Type: kind}, x, 0, text(3), api.ErrArg)
			}
			checkRefused(t, api.Link{Tags: tags}, x, 0, make([]byte, 70000), api.ErrArg)
		}
	}
}

// faults are changes of a tuple with which no frame is made.
func faults() []func(x api.Tuple) api.Tuple {
	l := []func(x api.Tuple) api.Tuple{}
	for _, proto := range []int{0, 1, 4, 5, 7, 16, 18, 41, 44, 58, 59, 255, 256, 6 + 256, 17 + 256, 6 + 1<<32, 17 - 256, -1, -6, -17, math.MinInt, math.MaxInt} {
		l = append(l, func(x api.Tuple) api.Tuple { x.Proto = proto; return x })
	}
	for _, port := range []int{-1, 65536, 65537, 65536 + 80, -65536, -65535, 1 << 31, 1 << 32, math.MinInt, math.MaxInt} {
		l = append(l, func(x api.Tuple) api.Tuple { x.Sport = port; return x })
		l = append(l, func(x api.Tuple) api.Tuple { x.Dport = port; return x })
		l = append(l, func(x api.Tuple) api.Tuple { x.Sport, x.Dport = port, port; return x })
	}
	return l
}

// P11.2: protocols that are neither, and ports that may not be.
func TestMakeWrongTuple(t *testing.T) {
	for _, change := range faults() {
		for _, x := range flows() {
			checkRefused(t, tagged(0), change(x), 0, nil, api.ErrArg)
			checkRefused(t, tagged(2), change(x), 0, text(30), api.ErrArg)
			checkRefused(t, tagged(1), change(x), 0, make([]byte, 70000), api.ErrArg)
		}
	}
}

// P11.2: each port there is, and those next to the least and the greatest one.
func TestMakePorts(t *testing.T) {
	for _, x := range []api.Tuple{flow4(6), flow6(6), flow4(17), flow6(17)} {
		for n := range 65536 {
			x.Sport, x.Dport = n, n*7%65536
			checkMake(t, tagged(0), x, 0, nil)
		}
		for _, port := range []int{0, 1, 65534, 65535} {
			x.Sport, x.Dport = port, 80
			checkMake(t, tagged(1), x, 0, text(5))
			checkMake(t, tagged(1), turned(x), 0, text(5))
		}
	}
}

// P11.2: addresses of two families, and of IPv4 with a byte behind the fourth that isn't 0: each bit of each of the twelve.
func TestMakeWrongAddrs(t *testing.T) {
	for _, proto := range []int{6, 17} {
		for _, x := range []api.Tuple{{Src: src4(), Dst: dst6()}, {Src: src6(), Dst: dst4()}, {Src: api.Addr{}, Dst: api.Addr{Six: true}}, {Src: api.Addr{Six: true}, Dst: api.Addr{}}, {Src: api.Addr{B: src6().B}, Dst: src6()}, {Src: src6(), Dst: api.Addr{B: src6().B}}, {Src: api.Addr{B: src6().B}, Dst: api.Addr{B: dst6().B}}} {
			x.Proto = proto
			checkRefused(t, tagged(0), x, 0, nil, api.ErrArg)
			checkRefused(t, tagged(1), x, 0, make([]byte, 70000), api.ErrArg)
		}
		for at := 4; at < 16; at++ {
			for bit := range 8 {
				x, y := flow4(proto), flow4(proto)
				x.Src.B[at] = 1 << bit
				y.Dst.B[at] = 1 << bit
				both := x
				both.Dst = y.Dst
				for _, bad := range []api.Tuple{x, y, both} {
					checkRefused(t, tagged(0), bad, 0, nil, api.ErrArg)
					checkRefused(t, tagged(2), bad, 0, text(9), api.ErrArg)
					checkRefused(t, tagged(0), bad, 0, make([]byte, 70000), api.ErrArg)
				}
			}
		}
	}
}

// P11.2: each byte of the addresses that counts.
func TestMakeAddrs(t *testing.T) {
	for _, x := range []api.Tuple{flow4(6), flow6(6), flow4(17), flow6(17)} {
		size := 4
		if x.Src.Six {
			size = 16
		}
		for at := range size {
			for n := range 256 {
				y, z := x, x
				y.Src.B[at], z.Dst.B[at] = byte(n), byte(n)
				checkMake(t, tagged(1), y, 0, text(3))
				checkMake(t, tagged(1), z, 0, text(3))
			}
		}
	}
}

// P11.2: each row of flags of TCP, and such that may not be; of UDP none but 0.
func TestMakeFlags(t *testing.T) {
	for flags := range 64 {
		for tags := range 3 {
			checkMake(t, tagged(tags), flow4(6), flags, text(3))
			checkMake(t, tagged(tags), flow6(6), flags, text(4))
		}
	}
	wrong := []int{-1, -2, -63, -64, -256, math.MinInt, math.MaxInt, 64, 65, 127, 128, 191, 192, 255, 256, 257, 319, 1 << 16, 1 << 32, 1<<32 + 2}
	for _, flags := range wrong {
		for _, x := range flows() {
			checkRefused(t, tagged(0), x, flags, nil, api.ErrArg)
			checkRefused(t, tagged(1), x, flags, make([]byte, 70000), api.ErrArg)
		}
	}
	for _, x := range flows() {
		for flags := 1; flags < 64 && x.Proto == 17; flags++ {
			checkRefused(t, tagged(0), x, flags, text(5), api.ErrArg)
			checkRefused(t, tagged(1), x, flags, make([]byte, 70000), api.ErrArg)
		}
	}
}

// longest is how long a load can be.
func longest(x api.Tuple) int {
	n := all - 20
	if x.Src.Six {
		n = all - 40
	}
	if x.Proto == 6 {
		return n - 20
	}
	return n - 8
}

// P11.2: the longest loads, and such that are too long, whatever tags there are.
func TestMakeLong(t *testing.T) {
	for i, want := range []int{65495, 65475, 65507, 65487} {
		if x := []api.Tuple{flow4(6), flow6(6), flow4(17), flow6(17)}[i]; longest(x) != want {
			t.Fatal(i, longest(x))
		}
	}
	long := text(140000)
	for _, x := range flows() {
		for tags := range 3 {
			n := longest(x)
			checkMake(t, tagged(tags), x, 0, long[:n])
			checkMake(t, tagged(tags), x, 0, long[:n-1])
			for _, more := range []int{1, 2, 7, 8, 9, 12, 20, 21, 28, 40, 41, 60, 100, 65536, 65536 + 20} {
				checkRefused(t, tagged(tags), x, 0, long[:n+more], api.ErrLong)
				checkRefused(t, tagged(tags), x, 0, long[:n+more:n+more], api.ErrLong)
			}
		}
		checkMake(t, tagged(0), x, 0, bytes.Repeat([]byte{255}, longest(x)))
	}
}

// P11.2: several arguments that may not be, with loads that are too long and that aren't: ErrArg is told ahead of ErrLong.
func TestMakeOrder(t *testing.T) {
	brief, long := text(9), make([]byte, 65536)
	for _, x := range flows() {
		for wrong := 1; wrong < 64; wrong++ {
			l, y, flags, load := tagged(0), x, 0, brief
			if wrong&1 != 0 {
				l = tagged(3)
			}
			if wrong&2 != 0 {
				y.Src.Six = !y.Src.Six
			}
			if wrong&4 != 0 {
				y.Proto = 1
			}
			if wrong&8 != 0 {
				y.Sport = 65536
			}
			if wrong&16 != 0 {
				flags = 64
			}
			if wrong&32 != 0 {
				load = long
			}
			want := api.ErrArg
			if wrong == 32 {
				want = api.ErrLong
			}
			checkRefused(t, l, y, flags, load, want)
		}
	}
}

// noSum is a load with which the checksum is worked out as 0.
func noSum(x api.Tuple, flags, size int) []byte {
	load := make([]byte, size)
	return with(load, size-2, two(worked(x, bare(x, flags, load)))...)
}

// P11.2: a checksum that is worked out as 0: of UDP all bits are 1, of TCP it stays.
func TestMakeNought(t *testing.T) {
	for _, x := range flows() {
		for _, size := range []int{2, 4, 100} {
			load := noSum(x, 0, size)
			if n := worked(x, bare(x, 0, load)); n != 0 {
				t.Fatal("not worked out as 0:", n)
			}
			checkMake(t, tagged(1), x, 0, load)
			b, _ := packet.Make(tagged(1), x, 0, load)
			p := places(tagged(1), x, 0, load)
			if x.Proto == 17 && number(b, p.Seg+6) != all {
				t.Errorf("%v: %x", x, b)
			}
			if x.Proto == 6 && number(b, p.Seg+16) != 0 {
				t.Errorf("%v: %x", x, b)
			}
			// One byte of the load's end more, and the checksum is another one.
			checkMake(t, tagged(1), x, 0, with(load, size-1, load[size-1]^1))
		}
	}
}

// P11.3: what is made, with bytes behind, is read as it was; cut off at each byte it isn't fine.
func TestMadeCut(t *testing.T) {
	for tags := range 3 {
		for _, x := range flows() {
			for _, load := range [][]byte{nil, text(1), text(10)} {
				l := tagged(tags)
				b, _ := packet.Make(l, x, 0, load)
				p := places(l, x, 0, load)
				for _, tail := range [][]byte{nil, {0}, {255}, text(2), text(46), make([]byte, 1500)} {
					checkRead(t, slices.Concat(b, tail), p)
				}
				for n := range len(b) {
					want := api.BadNet
					if n < p.Net {
						want = api.Runt
					}
					checkKind(t, b[:n], want)
					checkKind(t, b[:n:n], want)
				}
			}
		}
	}
}

// P11.2, P11.3: all that can be handed in, by chance.
func TestMakeByChance(t *testing.T) {
	c := chance(112)
	for range 50000 {
		x := flows()[c.below(len(flows()))]
		for i := range 4 {
			x.Src.B[i], x.Dst.B[i] = byte(c.below(256)), byte(c.below(256))
		}
		x.Sport, x.Dport = c.below(65536), c.below(65536)
		flags := 0
		if x.Proto == 6 {
			flags = c.below(64)
		}
		checkMake(t, tagged(c.below(3)), x, flags, c.some(200))
	}
}

// P11.4: what is handed in stays, with the room behind it, which doesn't count; what is answered is new memory.
func TestMakeStays(t *testing.T) {
	for tags := range 3 {
		for _, x := range flows() {
			for n := range 20 {
				l := tagged(tags)
				room := l.Tags[:3]
				tagsWere := slices.Clone(room)
				whole := text(60)
				was := slices.Clone(whole)
				want := laid(l, x, 0, was[:n])
				first, _ := packet.Make(l, x, 0, whole[:n])
				second, _ := packet.Make(l, x, 0, whole[:n])
				if !bytes.Equal(whole, was) || !slices.Equal(room, tagsWere) {
					t.Errorf("%d: what was handed in is %x, %v", n, whole, room)
				}
				spoil(first)
				if !bytes.Equal(whole, was) || !slices.Equal(room, tagsWere) || !bytes.Equal(second, want) {
					t.Errorf("%d: %x, %v and %x, not %x", n, whole, room, second, want)
				}
				spoil(whole)
				for i := range room {
					room[i] = api.Tag{Type: 1, Tci: 2}
				}
				if !bytes.Equal(second, want) {
					t.Errorf("%d: %x, not %x", n, second, want)
				}
				checkMake(t, tagged(tags), x, 0, was[:n])
			}
		}
	}
}

// P11.4: what is refused leaves what was handed in as it was, too.
func TestMakeRefusedStays(t *testing.T) {
	load := make([]byte, 65600)
	was := slices.Clone(load)
	for _, x := range flows() {
		for tags := range 4 {
			l := tagged(tags)
			tagsWere := slices.Clone(l.Tags[:3])
			want := api.ErrLong
			if tags == 3 {
				want = api.ErrArg
			}
			checkRefused(t, l, x, 0, load, want)
			checkRefused(t, l, x, 0, load[:65536:65600], want)
			if !bytes.Equal(load, was) || !slices.Equal(l.Tags[:3], tagsWere) {
				t.Error("what was handed in has changed")
			}
		}
	}
}
