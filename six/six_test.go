package six

import (
	"bytes"
	"encoding/hex"
	"math"
	"slices"
	"strings"
	"testing"

	"wayleave/api"
)

// known is the bytes that the text tells in hexadecimal.
func known(s string) []byte {
	b, err := hex.DecodeString(strings.ReplaceAll(s, " ", ""))
	if err != nil {
		panic(err)
	}
	return b
}

// ipv6 is an address of IPv6.
func ipv6(b ...byte) api.Addr { return api.Addr{Six: true, B: [16]byte(b)} }

// source and target are two addresses of which each byte is another one.
func source() api.Addr { return ipv6(known("20 01 0d b8 01 02 03 04 05 06 07 08 09 0a 0b 0c")...) }
func target() api.Addr { return ipv6(known("fe 80 f1 f2 f3 f4 f5 f6 f7 f8 f9 fa fb fc fd ff")...) }

// text is n bytes of which those near to each other differ, none of them 0.
func text(n int) []byte {
	b := make([]byte, n)
	for i := range b {
		b[i] = byte(i*i*7+i*31+i>>3+5) | 2
	}
	return b
}

// ext is an extension: its kind, its second byte, and the two bytes behind that, as a number.
type ext struct{ kind, second, place int }

// The kinds of extensions.
func kinds() []int { return []int{0, 43, 44, 51, 60} }

// size of an extension, by the words; of what isn't one 0.
func (x ext) size() int {
	switch x.kind {
	case 0, 43, 60:
		return 8 + 8*x.second
	case 51:
		return 8 + 4*x.second
	case 44:
		return 8
	}
	return 0
}

// bare is a header that tells so much behind it, of that protocol.
func bare(behind, proto int) []byte {
	return slices.Concat([]byte{0x60, 0, 0, 0, byte(behind / 256), byte(behind % 256), byte(proto), 7}, known("20 01 0d b8 01 02 03 04 05 06 07 08 09 0a 0b 0c"), known("fe 80 f1 f2 f3 f4 f5 f6 f7 f8 f9 fa fb fc fd ff"))
}

// packet is one that has the extensions, the last of which tells proto behind it, and n bytes more.
func packet(proto, n int, l ...ext) []byte {
	var body []byte
	for i, x := range l {
		b := text(x.size())
		b[0] = byte(proto)
		if i+1 < len(l) {
			b[0] = byte(l[i+1].kind)
		}
		b[1], b[2], b[3] = byte(x.second), byte(x.place/256), byte(x.place%256)
		body = append(body, b...)
	}
	body = append(body, text(n)...)
	if len(l) > 0 {
		proto = l[0].kind
	}
	return slices.Concat(bare(len(body), proto), body)
}

// readAs is what a packet is read as that has the extensions, and n bytes more of the protocol.
func readAs(proto, n int, l ...ext) api.Six {
	h := api.Six{Head: 40, Hop: 7, Exts: len(l), Proto: proto, Src: source(), Dst: target()}
	for _, x := range l {
		h.Head += x.size()
	}
	h.Total = h.Head + n
	return h
}

// fragment is h as a fragment's header.
func fragment(h api.Six) api.Six {
	h.Frag = true
	return h
}

// behind is h with another number of bytes behind its 40.
func behind(h api.Six, n int) api.Six {
	h.Total = 40 + n
	return h
}

// telling is b with another number of bytes told to be behind its 40.
func telling(b []byte, n int) []byte {
	b = slices.Clone(b)
	b[4], b[5] = byte(n/256), byte(n%256)
	return b
}

// short is b, or the beginning of it where it is long.
func short(b []byte) []byte { return b[:min(len(b), 120)] }

// checkRead holds what Read answers against want and e.
func checkRead(t *testing.T, b []byte, want api.Six, e api.Errno) {
	t.Helper()
	if h, err := Read(b); err != e || h != want {
		t.Errorf("Read(%x), of %d bytes: %v, %d, not %v, %d", short(b), len(b), h, err, want, e)
	}
}

// checkRefused holds what Read answers against an error.
func checkRefused(t *testing.T, b []byte, e api.Errno) {
	t.Helper()
	checkRead(t, b, api.Six{}, e)
}

// checkPut holds what Put answers against want and e.
func checkPut(t *testing.T, h api.Six, want []byte, e api.Errno) {
	t.Helper()
	if b, err := Put(h); err != e || !bytes.Equal(b, want) {
		t.Errorf("Put(%v): %x, %d, not %x, %d", h, b, err, want, e)
	}
}

// checkNotPut holds what Put answers against ErrArg.
func checkNotPut(t *testing.T, h api.Six) {
	t.Helper()
	checkPut(t, h, nil, api.ErrArg)
}

// told is what Read is to answer, by the words and the order of the chapter.
func told(b []byte) (api.Six, api.Errno) {
	if len(b) < 40 {
		return api.Six{}, api.ErrEnd
	}
	if b[0]/16 != 6 {
		return api.Six{}, api.ErrForm
	}
	total := 40 + int(b[4])*256 + int(b[5])
	if total > len(b) {
		return api.Six{}, api.ErrEnd
	}
	h := api.Six{Head: 40, Total: total, Hop: int(b[7]), Proto: int(b[6]), Src: ipv6(b[8:24]...), Dst: ipv6(b[24:40]...)}
	rest := b[40:total]
	for !h.Frag && slices.Contains(kinds(), h.Proto) {
		h.Exts++
		if h.Exts == 9 {
			return api.Six{}, api.ErrLong
		}
		if len(rest) < 8 {
			return api.Six{}, api.ErrEnd
		}
		n := ext{kind: h.Proto, second: int(rest[1])}.size()
		if len(rest) < n {
			return api.Six{}, api.ErrEnd
		}
		h.Frag = h.Proto == 44 && (rest[2] > 0 || rest[3]/8 > 0 || rest[3]%2 == 1)
		h.Head, h.Proto, rest = h.Head+n, int(rest[0]), rest[n:]
	}
	return h, api.OK
}

// P9.1: packets that are known; the chapter's examples are the first ones.
func TestReadKnown(t *testing.T) {
	head := func(n, proto string) string {
		return "60 00 00 00 " + n + proto + " 40 20 01 0d b8 01 02 03 04 05 06 07 08 09 0a 0b 0c fe 80 f1 f2 f3 f4 f5 f6 f7 f8 f9 fa fb fc fd ff"
	}
	for _, x := range []struct {
		b                        string
		e                        api.Errno
		head, total, exts, proto int
		frag                     bool
	}{
		{head("00 08", "11") + "00 35 00 35 00 08 00 00", 0, 40, 48, 0, 17, false},
		{head("00 08", "00") + "00 00 00 00 00 00 00 00", api.ErrEnd, 0, 0, 0, 0, false},
		{head("00 08", "00") + "11 00 00 00 00 00 00 00", 0, 48, 48, 1, 17, false},
		{head("00 14", "3b"), api.ErrEnd, 0, 0, 0, 0, false},
		{head("00 00", "3b"), 0, 40, 40, 0, 59, false},
		{head("00 10", "00") + "3a 00 05 02 00 00 01 00 82 00 9f 1c 27 10 00 00", 0, 48, 56, 1, 58, false},
		{head("00 18", "2b") + "06 02 04 01 00 00 00 00 00 01 02 03 04 05 06 07 08 09 0a 0b 0c 0d 0e 0f", 0, 64, 64, 1, 6, false},
		{head("00 18", "33") + "06 04 00 00 00 00 01 00 00 00 00 01 aa bb cc dd ee ff 00 11 22 33 44 55", 0, 64, 64, 1, 6, false},
		{head("00 0c", "2c") + "11 00 00 01 12 34 56 78 00 35 00 35", 0, 48, 52, 1, 17, true},
		{head("00 0c", "2c") + "11 00 05 a8 12 34 56 78 00 35 00 35", 0, 48, 52, 1, 17, true},
		{head("00 0c", "2c") + "11 00 00 06 12 34 56 78 00 35 00 35", 0, 48, 52, 1, 17, false},
		{head("00 0c", "2c") + "3c 00 00 00 12 34 56 78 11 00 01 02", api.ErrEnd, 0, 0, 0, 0, false},
		{head("00 0c", "2c") + "3c 00 00 01 12 34 56 78 11 00 01 02", 0, 48, 52, 1, 60, true},
		{"45 00 00 73 00 00 40 00 40 11 b8 61 c0 a8 00 01 c0 a8 00 c7" + strings.Repeat("00", 95), api.ErrForm, 0, 0, 0, 0, false},
	} {
		want := api.Six{Head: x.head, Total: x.total, Hop: 64, Frag: x.frag, Exts: x.exts, Proto: x.proto, Src: source(), Dst: target()}
		if x.e != api.OK {
			want = api.Six{}
		}
		checkRead(t, known(x.b), want, x.e)
	}
}

// P9.1: no bytes, and as many as are too few, whatever they are, with room behind them and without.
func TestReadFew(t *testing.T) {
	checkRefused(t, nil, api.ErrEnd)
	checkRefused(t, []byte{}, api.ErrEnd)
	for n := range 40 {
		for _, b := range [][]byte{packet(6, 0), packet(6, 20), packet(6, 0, ext{kind: 0}), make([]byte, 60), bytes.Repeat([]byte{255}, 60), bytes.Repeat([]byte{0x66}, 60)} {
			checkRefused(t, b[:n], api.ErrEnd)
			checkRefused(t, b[:n:n], api.ErrEnd)
		}
	}
	checkRead(t, packet(6, 0), readAs(6, 0), api.OK)
	checkRefused(t, packet(6, 1)[:40:40], api.ErrEnd)
	checkRefused(t, make([]byte, 40), api.ErrForm)
}

// P9.1: each value of the first byte, the lower four bits of which count for nothing.
func TestReadVersion(t *testing.T) {
	for first := range 256 {
		for _, b := range [][]byte{packet(17, 0), packet(17, 9)} {
			b[0] = byte(first)
			if first>>4 == 6 {
				checkRead(t, b, readAs(17, len(b)-40), api.OK)
			} else {
				checkRefused(t, b, api.ErrForm)
			}
		}
	}
}

// P9.1: the bits that count for nothing: each alone, each byte of them, and all.
func TestReadIdle(t *testing.T) {
	check := func(b0, b1, b2, b3 byte) {
		t.Helper()
		b := packet(6, 5, ext{0, 0, 0})
		copy(b, []byte{0x60 | b0, b1, b2, b3})
		checkRead(t, b, readAs(6, 5, ext{0, 0, 0}), api.OK)
	}
	for n := range 256 {
		x := byte(n)
		check(0, x, 0, 0)
		check(0, 0, x, 0)
		check(0, 0, 0, x)
		check(x&15, x, ^x, x)
	}
	check(15, 255, 255, 255)
}

// P9.1: how many bytes are told to be behind the header: 0, fewer than there are, just as many, one more, and the most.
func TestReadTotal(t *testing.T) {
	for _, n := range []int{0, 1, 2, 7, 8, 9, 40, 254, 255, 256, 257, 300, 511, 512, 1460} {
		b := packet(17, n)
		for m := range n + 1 {
			checkRead(t, telling(b, m), behind(readAs(17, 0), m), api.OK)
		}
		checkRefused(t, telling(b, n+1), api.ErrEnd)
		checkRefused(t, telling(b, n+40), api.ErrEnd)
		checkRefused(t, telling(b, n+256), api.ErrEnd)
		checkRefused(t, telling(b, 65535), api.ErrEnd)
	}
}

// P9.1: each number of bytes that can be told, where all of them are there, and where the last one isn't.
func TestReadEachTotal(t *testing.T) {
	b := packet(17, 65535)
	for n := range 65536 {
		b[4], b[5] = byte(n/256), byte(n%256)
		checkRead(t, b, behind(readAs(17, 0), n), api.OK)
		checkRead(t, b[:40+n], behind(readAs(17, 0), n), api.OK)
		if n > 0 {
			checkRefused(t, b[:39+n], api.ErrEnd)
		}
	}
	checkRead(t, append(b, 0), readAs(17, 65535), api.OK)
}

// P9.1: bytes behind the packet, and none: none of them its own.
func TestReadBehind(t *testing.T) {
	for _, l := range [][]ext{nil, {{0, 0, 0}}, {{44, 0, 0}, {60, 1, 0}}, {{51, 3, 0}}} {
		for _, n := range []int{0, 1, 20, 300} {
			b := packet(6, n, l...)
			checkRead(t, b, readAs(6, n, l...), api.OK)
			for _, tail := range [][]byte{{0}, {1}, {255, 255, 255}, text(8), packet(6, 3), make([]byte, 1500)} {
				checkRead(t, slices.Concat(b, tail), readAs(6, n, l...), api.OK)
			}
		}
	}
}

// P9.1: each value of each byte of the header that isn't told of above, and each that is behind the header, where no extension is.
func TestReadEachByte(t *testing.T) {
	for n := range 256 {
		b := packet(6, 3)
		b[7] = byte(n)
		want := readAs(6, 3)
		want.Hop = n
		checkRead(t, b, want, api.OK)
		for at := range 16 {
			b, want := packet(6, 3), readAs(6, 3)
			b[8+at], want.Src.B[at] = byte(n), byte(n)
			checkRead(t, b, want, api.OK)
			b[24+at], want.Dst.B[at] = byte(n), byte(n)
			checkRead(t, b, want, api.OK)
		}
		for at := range 3 {
			b := packet(6, 3)
			b[40+at] = byte(n)
			checkRead(t, b, readAs(6, 3), api.OK)
		}
	}
}

// P9.1: addresses of 0 alone, of 255 alone, and such that look like those of IPv4: all are of IPv6.
func TestReadAddresses(t *testing.T) {
	for _, a := range []api.Addr{ipv6(make([]byte, 16)...), ipv6(bytes.Repeat([]byte{255}, 16)...), ipv6(1, 2, 3, 4, 0, 0, 0, 0, 0, 0, 0, 0, 0, 0, 0, 0), ipv6(0, 0, 0, 0, 0, 0, 0, 0, 0, 0, 255, 255, 1, 2, 3, 4)} {
		b, want := packet(17, 8), readAs(17, 8)
		copy(b[8:], a.B[:])
		want.Src = a
		checkRead(t, b, want, api.OK)
		copy(b[24:], a.B[:])
		want.Dst = a
		checkRead(t, b, want, api.OK)
	}
}

// P9.1: each number told to be behind the header, and behind an extension of each kind, with no bytes for it: what isn't one of an extension ends them, ProtoNone too.
func TestReadEachProto(t *testing.T) {
	for proto := range 256 {
		isExt := slices.Contains(kinds(), proto)
		for _, n := range []int{0, 7} {
			if isExt {
				checkRefused(t, packet(proto, n), api.ErrEnd)
			} else {
				checkRead(t, packet(proto, n), readAs(proto, n), api.OK)
			}
			for _, kind := range kinds() {
				x := ext{kind, 0, 0}
				if isExt {
					checkRefused(t, packet(proto, n, x), api.ErrEnd)
				} else {
					checkRead(t, packet(proto, n, x), readAs(proto, n, x), api.OK)
				}
			}
		}
	}
	checkRead(t, packet(api.ProtoNone, 0), readAs(59, 0), api.OK)
	checkRead(t, packet(api.ProtoNone, 30), readAs(59, 30), api.OK)
	checkRead(t, packet(api.ProtoNone, 30, ext{60, 0, 0}), readAs(59, 30, ext{60, 0, 0}), api.OK)
}

// P9.1: how many bytes an extension has, in numbers written out: by its second byte 0, 1, 2 and 255.
func TestReadSizes(t *testing.T) {
	for _, x := range []struct {
		kind  int
		heads [4]int
	}{
		{api.ProtoHop, [4]int{48, 56, 64, 2088}},
		{api.ProtoRoute, [4]int{48, 56, 64, 2088}},
		{api.ProtoDest, [4]int{48, 56, 64, 2088}},
		{api.ProtoAuth, [4]int{48, 52, 56, 1068}},
		{api.ProtoFrag, [4]int{48, 48, 48, 48}},
	} {
		for i, second := range []byte{0, 1, 2, 255} {
			body := make([]byte, 3000)
			body[0], body[1] = 6, second
			want := readAs(6, 0)
			want.Head, want.Total, want.Exts = x.heads[i], 3040, 1
			checkRead(t, slices.Concat(bare(3000, x.kind), body), want, api.OK)
		}
	}
}

// P9.1: each second byte of each kind, with as many bytes as it tells, one fewer and one more, where the packet ends, and where only bytes that aren't its own are behind.
func TestReadLeft(t *testing.T) {
	for _, kind := range kinds() {
		for second := range 256 {
			for _, l := range [][]ext{{{kind, second, 0}}, {{60, 1, 0}, {kind, second, 0}}, {{44, 0, 0}, {51, 1, 0}, {0, 0, 0}, {kind, second, 0}}} {
				b, want := packet(17, 9, l...), readAs(17, 9, l...)
				n := len(b) - 49
				checkRead(t, b, want, api.OK)
				for m := n - 9; m < n; m++ {
					checkRefused(t, telling(b, m), api.ErrEnd)
					checkRefused(t, telling(b, m)[:40+m:40+m], api.ErrEnd)
				}
				for m := n; m <= n+9; m++ {
					checkRead(t, telling(b, m), behind(want, m), api.OK)
					checkRead(t, telling(b, m)[:40+m:40+m], behind(want, m), api.OK)
				}
			}
		}
	}
}

// P9.1: an extension that has just the bytes that are left, a unit less, and a unit more, in a packet with bytes behind it.
func TestReadUnits(t *testing.T) {
	tail := text(5000)
	for _, kind := range []int{0, 43, 51, 60} {
		unit := ext{kind: kind, second: 1}.size() - 8
		for second := 1; second < 255; second++ {
			b, want := packet(6, 0, ext{kind, second, 0}), readAs(6, 0, ext{kind, second, 0})
			checkRead(t, slices.Concat(b, tail), want, api.OK)
			b[41]++
			checkRefused(t, b, api.ErrEnd)
			checkRefused(t, slices.Concat(b, tail), api.ErrEnd)
			b[41] -= 2
			want.Head -= unit
			checkRead(t, b, want, api.OK)
			checkRead(t, slices.Concat(b, tail), want, api.OK)
		}
	}
}

// P9.1: 0 to 8 bytes that are left of the packet for an extension, which tells only of 8, as the first one, and behind another one of each kind.
func TestReadFewLeft(t *testing.T) {
	for _, kind := range kinds() {
		for n := range 9 {
			for _, tail := range [][]byte{nil, {0}, text(100)} {
				b := slices.Concat(bare(n, kind), known("06 00 00 00 01 02 03 04")[:n], tail)
				want := behind(readAs(6, 0, ext{kind, 0, 0}), n)
				if n < 8 {
					checkRefused(t, b, api.ErrEnd)
				} else {
					checkRead(t, b, want, api.OK)
				}
			}
			for _, first := range kinds() {
				x := ext{first, 0, 0}
				b := slices.Concat(bare(8+n, first), []byte{byte(kind), 0, 0, 0, 9, 9, 9, 9}, known("11 00 00 00 01 02 03 04")[:n])
				if n < 8 {
					checkRefused(t, b, api.ErrEnd)
				} else {
					checkRead(t, b, readAs(17, 0, x, ext{kind, 0, 0}), api.OK)
				}
			}
		}
	}
}

// rows calls f with each row of so many kinds.
func rows(n int, f func(l []ext)) {
	l := make([]ext, n)
	var fill func(i int)
	fill = func(i int) {
		if i == n {
			f(l)
			return
		}
		for _, kind := range kinds() {
			l[i] = ext{kind, (i + kind) % 3, 0}
			if kind != 44 {
				l[i].place = 0xffff
			}
			fill(i + 1)
		}
	}
	fill(0)
}

// P9.1, P9.3: extensions of all kinds one behind the other, in each order, up to five of them: skipped, and counted; and cut just ahead of their end.
func TestReadRows(t *testing.T) {
	for n := range 6 {
		rows(n, func(l []ext) {
			b, want := packet(17, 2, l...), readAs(17, 2, l...)
			checkRead(t, b, want, api.OK)
			if n > 0 {
				checkRefused(t, telling(b, want.Head-41), api.ErrEnd)
			}
		})
	}
}

// P9.1: up to eight extensions of a kind, and of all kinds in turn, and a ninth one, with bytes for it, with too few, and without.
func TestReadNinth(t *testing.T) {
	for first := range 5 {
		for step := range 5 {
			var l []ext
			for i := range 8 {
				l = append(l, ext{kinds()[(first+i*step)%5], i % 2, 0})
				checkRead(t, packet(6, 1, l...), readAs(6, 1, l...), api.OK)
				checkRefused(t, packet(l[0].kind, 1, l...), []api.Errno{api.ErrEnd, api.ErrLong}[i/7])
			}
			checkRead(t, packet(59, 0, l...), readAs(59, 0, l...), api.OK)
			for _, kind := range kinds() {
				for n := range 10 {
					checkRefused(t, packet(kind, n, l...), api.ErrLong)
				}
				checkRefused(t, packet(kind, 3000, l...), api.ErrLong)
				checkRefused(t, packet(6, 9, append(l, ext{kind, 0, 0})...), api.ErrLong)
				checkRefused(t, packet(6, 9, append(l, ext{kind, 1, 0}, ext{kind, 0, 0})...), api.ErrLong)
				checkRefused(t, packet(6, 9, append(l, ext{44, 0, 1})...), api.ErrLong)
			}
		}
	}
}

// P9.1: each number in the place of a fragment's bits: all but the second and third lowest one make it a fragment.
func TestReadEachPlace(t *testing.T) {
	for place := range 65536 {
		x := ext{44, 0, place}
		want := readAs(17, 8, x)
		want.Frag = place != 0 && place != 2 && place != 4 && place != 6
		checkRead(t, packet(17, 8, x), want, api.OK)
	}
}

// P9.1: each bit of a fragment's set alone, with whatever second byte, and whatever is told to be behind it.
func TestReadEachBit(t *testing.T) {
	for bit := range 16 {
		frag := bit != 1 && bit != 2
		for n := range 256 {
			x := ext{44, n, 1 << bit}
			want := readAs(6, 8, x)
			want.Frag = frag
			checkRead(t, packet(6, 8, x), want, api.OK)
			x = ext{44, 0, 1 << bit}
			want = readAs(n, 7, x)
			want.Frag = frag
			if !frag && slices.Contains(kinds(), n) {
				checkRefused(t, packet(n, 7, x), api.ErrEnd)
			} else {
				checkRead(t, packet(n, 7, x), want, api.OK)
			}
		}
	}
}

// P9.1: a fragment as the first, a middle and the last extension, with one of each kind told to be behind it: they end there.
func TestReadFragmentAt(t *testing.T) {
	for n := 1; n <= 8; n++ {
		for at := range n {
			for _, place := range []int{0, 1, 2, 4, 6, 7, 8, 0x100, 0x8000, 0xffff} {
				for _, kind := range kinds() {
					l := slices.Repeat([]ext{{kind, 1, 0}}, n)
					l[at] = ext{44, 200, place}
					b, want := packet(6, 20, l...), readAs(6, 20, l...)
					if place&0xfff9 != 0 {
						proto := 6
						if at+1 < n {
							proto = kind
						}
						want = fragment(behind(readAs(proto, 0, l[:at+1]...), len(b)-40))
					}
					checkRead(t, b, want, api.OK)
				}
			}
		}
	}
}

// P9.1: a fragment as the eighth extension: what is told to be behind it isn't a ninth one; where it isn't a fragment it is.
func TestReadFragmentEighth(t *testing.T) {
	for _, kind := range kinds() {
		for _, n := range []int{0, 1, 8, 100} {
			l := slices.Repeat([]ext{{0, 0, 0}}, 7)
			for _, place := range []int{1, 8, 0xfff8, 9} {
				x := append(l, ext{44, 0, place})
				checkRead(t, packet(kind, n, x...), fragment(readAs(kind, n, x...)), api.OK)
			}
			for _, place := range []int{0, 2, 4, 6} {
				checkRefused(t, packet(kind, n, append(l, ext{44, 0, place})...), api.ErrLong)
			}
		}
	}
}

// P9.1: the third and fourth byte of an extension of another kind don't make a fragment.
func TestReadNoFragment(t *testing.T) {
	for _, kind := range []int{0, 43, 51, 60} {
		for place := range 65536 {
			x := ext{kind, 0, place}
			checkRead(t, packet(17, 8, x), readAs(17, 8, x), api.OK)
		}
		l := []ext{{kind, 0, 0xffff}, {44, 0, 0}, {kind, 1, 1}}
		checkRead(t, packet(17, 8, l...), readAs(17, 8, l...), api.OK)
	}
}

// P9.1: two faults in the header itself: the first one of the order is told.
func TestReadOrderOfHeader(t *testing.T) {
	for first := range 256 {
		b := packet(6, 0)
		b[0] = byte(first)
		checkRefused(t, b[:39], api.ErrEnd)
		b[5] = 1
		checkRefused(t, b[:39], api.ErrEnd)
		if first>>4 != 6 {
			checkRefused(t, b, api.ErrForm)
			b[6] = 0
			checkRefused(t, b, api.ErrForm)
			checkRefused(t, append(b, 0), api.ErrForm)
		}
	}
}

// P9.1: faults of the header and of the extensions: those of the header are told first, those of the extensions one by one.
func TestReadOrderOfExts(t *testing.T) {
	nine := slices.Repeat([]ext{{0, 0, 0}}, 9)
	long := packet(6, 0, nine...)
	checkRefused(t, long, api.ErrLong)
	checkRefused(t, long[:39], api.ErrEnd)
	checkRefused(t, long[:len(long)-1], api.ErrEnd)
	checkRefused(t, telling(long, len(long)-39), api.ErrEnd)
	checkRefused(t, telling(long, len(long)-41), api.ErrLong)
	checkRefused(t, telling(long, 64), api.ErrLong)
	checkRefused(t, telling(long, 63), api.ErrEnd)
	for at := range 9 {
		// One that tells of more than there is, ahead of the ninth, and the ninth itself.
		b := slices.Clone(long)
		b[41+8*at] = 255
		checkRefused(t, b, []api.Errno{api.ErrEnd, api.ErrLong}[at/8])
		b[0] = 0x40
		checkRefused(t, b, api.ErrForm)
	}
	for at := range 8 {
		// A fragment ahead of the ninth: nothing behind it is looked at.
		l := slices.Clone(nine)
		l[at] = ext{44, 0, 8}
		b := packet(6, 0, l...)
		want := fragment(behind(readAs(0, 0, l[:at+1]...), len(b)-40))
		checkRead(t, b, want, api.OK)
		b[49+8*at] = 255
		checkRead(t, b, want, api.OK)
	}
}

// chance is a row of numbers that looks like chance, and is the same each time.
type chance uint64

func (c *chance) below(n int) int {
	*c = *c*6364136223846793005 + 1442695040888963407
	return int(uint64(*c>>33) % uint64(n))
}

// some are bytes of which most begin with something like a header and extensions.
func (c *chance) some() []byte {
	l := make([]ext, c.below(10))
	for i := range l {
		l[i] = ext{kinds()[c.below(5)], c.below(3), []int{0, 0, 0, 2, 4, 6, 1, 8, c.below(65536)}[c.below(9)]}
	}
	proto := []int{6, 17, 59, 0, 44, c.below(256)}[c.below(6)]
	b := packet(proto, c.below(30), l...)
	switch c.below(4) {
	case 0:
		b = b[:c.below(len(b)+1)]
	case 1:
		b = telling(b, max(len(b)-40+5-c.below(40), 0))
	}
	if len(b) > 0 && c.below(5) == 0 {
		b[c.below(len(b))] = byte(c.below(256))
	}
	return b
}

// P9.1: bytes of all kinds, held against the words.
func TestReadByWords(t *testing.T) {
	c, seen := chance(7), map[api.Errno]int{}
	for range 200000 {
		b := c.some()
		h, e := told(b)
		checkRead(t, b, h, e)
		seen[e]++
	}
	for _, e := range []api.Errno{api.OK, api.ErrEnd, api.ErrForm, api.ErrLong} {
		if seen[e] < 100 {
			t.Errorf("%d is told only %d times", e, seen[e])
		}
	}
}

// P9.1: bytes of any kind, with a header's first bits and without.
func TestReadAny(t *testing.T) {
	c := chance(23)
	for i := range 200000 {
		b := make([]byte, c.below(200))
		for at := range b {
			b[at] = byte(c.below(256))
		}
		if len(b) >= 8 && i%3 > 0 {
			b[0], b[4], b[5] = 0x60, 0, byte(c.below(160))
			b[6] = byte(kinds()[c.below(5)])
		}
		h, e := told(b)
		checkRead(t, b, h, e)
	}
}

// P9.3: what a packet carries, behind whatever extensions, stands from Head to Total.
func TestReadCarried(t *testing.T) {
	carried := known("c0 ff ee 01 02 03")
	for n := range 5 {
		rows(n, func(l []ext) {
			b := packet(17, len(carried), l...)
			copy(b[len(b)-len(carried):], carried)
			b = append(b, 99)
			h, e := Read(b)
			if e != api.OK || h.Exts != n || h.Proto != 17 || !bytes.Equal(b[h.Head:h.Total], carried) {
				t.Errorf("%v: %v, %d", l, h, e)
			}
		})
	}
}

// laid is the header's bytes, by the words.
func laid(h api.Six) []byte {
	n := h.Total - 40
	return slices.Concat([]byte{0x60, 0, 0, 0, byte(n / 256), byte(n % 256), byte(h.Proto), byte(h.Hop)}, h.Src.B[:], h.Dst.B[:])
}

// exampleLaid is a header that may be laid.
func exampleLaid() api.Six { return readAs(17, 8) }

// P9.2: headers whose bytes are known; the first one is the chapter's example.
func TestPutKnown(t *testing.T) {
	addrs := "20 01 0d b8 01 02 03 04 05 06 07 08 09 0a 0b 0c fe 80 f1 f2 f3 f4 f5 f6 f7 f8 f9 fa fb fc fd ff"
	checkPut(t, api.Six{Head: 40, Total: 48, Hop: 64, Proto: 17, Src: source(), Dst: target()}, known("60 00 00 00 00 08 11 40"+addrs), api.OK)
	checkPut(t, api.Six{Head: 40, Total: 40, Proto: 59, Src: source(), Dst: target()}, known("60 00 00 00 00 00 3b 00"+addrs), api.OK)
	checkPut(t, api.Six{Head: 40, Total: 65575, Hop: 255, Proto: 255, Src: source(), Dst: target()}, known("60 00 00 00 ff ff ff ff"+addrs), api.OK)
	checkPut(t, api.Six{Head: 40, Total: 1500, Hop: 1, Proto: 6, Src: api.Addr{Six: true}, Dst: api.Addr{Six: true}}, known("60 00 00 00 05 b4 06 01"+strings.Repeat("00", 32)), api.OK)
	checkNotPut(t, api.Six{})
}

// headers are such as may be laid: each number its least, its greatest and others.
func headers() []api.Six {
	var l []api.Six
	addrs := []api.Addr{{Six: true}, source(), target(), ipv6(bytes.Repeat([]byte{255}, 16)...), ipv6(1, 2, 3, 4, 0, 0, 0, 0, 0, 0, 0, 0, 0, 0, 0, 0)}
	for i, total := range []int{40, 41, 47, 48, 60, 255, 256, 295, 296, 1500, 32768, 65535, 65536, 65574, 65575} {
		for j, hop := range []int{0, 1, 64, 127, 128, 254, 255} {
			for k, proto := range []int{1, 4, 6, 17, 41, 42, 45, 50, 52, 58, 59, 61, 135, 255} {
				l = append(l, api.Six{Head: 40, Total: total, Hop: hop, Proto: proto, Src: addrs[(i+j)%5], Dst: addrs[(j+k)%5]})
			}
		}
	}
	return l
}

// P9.2: headers of all kinds.
func TestPut(t *testing.T) {
	for _, h := range headers() {
		checkPut(t, h, laid(h), api.OK)
	}
}

// P9.2: each number of each place, those that may be and those near to them that may not.
func TestPutEachNumber(t *testing.T) {
	for n := -300; n <= 66000; n++ {
		h := exampleLaid()
		h.Total = n
		if n < 40 || n > 65575 {
			checkNotPut(t, h)
		} else {
			checkPut(t, h, laid(h), api.OK)
		}
	}
	for n := -300; n <= 600; n++ {
		h := exampleLaid()
		h.Hop = n
		if n < 0 || n > 255 {
			checkNotPut(t, h)
		} else {
			checkPut(t, h, laid(h), api.OK)
		}
		h = exampleLaid()
		h.Proto = n
		if n < 0 || n > 255 || slices.Contains(kinds(), n) {
			checkNotPut(t, h)
		} else {
			checkPut(t, h, laid(h), api.OK)
		}
	}
	h := exampleLaid()
	h.Proto = api.ProtoNone
	checkPut(t, h, laid(h), api.OK)
}

// P9.2: any Head but 40, and any Exts but 0, though an extension of that many bytes may be.
func TestPutHeadAndExts(t *testing.T) {
	for n := -300; n <= 2200; n++ {
		h := exampleLaid()
		h.Total = 3000
		h.Head = n
		if n != 40 {
			checkNotPut(t, h)
		}
		h.Exts = 1
		checkNotPut(t, h)
		h.Head, h.Exts = 40, n
		if n != 0 {
			checkNotPut(t, h)
		}
	}
}

// P9.2: each number far without what may be, such whose last bits may be among them.
func TestPutFar(t *testing.T) {
	for _, shift := range []int{8, 16, 31, 32, 33, 48, 63} {
		for _, sign := range []int{1, -1} {
			far := sign << shift
			for _, set := range []func(h *api.Six){
				func(h *api.Six) { h.Head += far }, func(h *api.Six) { h.Hop += far },
				func(h *api.Six) { h.Proto += far }, func(h *api.Six) { h.Exts += far },
				func(h *api.Six) { h.Total += far << 8 },
			} {
				h := exampleLaid()
				set(&h)
				if h != exampleLaid() {
					checkNotPut(t, h)
				}
			}
		}
	}
	for _, n := range []int{math.MaxInt, math.MinInt, math.MaxInt32, math.MinInt32} {
		for _, set := range []func(h *api.Six){
			func(h *api.Six) { h.Head = n }, func(h *api.Six) { h.Total = n }, func(h *api.Six) { h.Hop = n },
			func(h *api.Six) { h.Proto = n }, func(h *api.Six) { h.Exts = n },
		} {
			h := exampleLaid()
			set(&h)
			checkNotPut(t, h)
		}
	}
}

// P9.2: a fragment, and one protocol of an extension each, whatever else there is.
func TestPutRefused(t *testing.T) {
	for _, h := range headers() {
		checkNotPut(t, fragment(h))
		for _, kind := range kinds() {
			x := h
			x.Proto = kind
			checkNotPut(t, x)
			checkNotPut(t, fragment(x))
		}
	}
}

// P9.2: addresses that aren't of IPv6: Src, Dst, and both.
func TestPutAddresses(t *testing.T) {
	for _, a := range []api.Addr{{}, {B: [16]byte{1, 2, 3, 4}}, {B: source().B}, {B: [16]byte{15: 1}}, {B: [16]byte(bytes.Repeat([]byte{255}, 16))}} {
		h := exampleLaid()
		h.Src = a
		checkNotPut(t, h)
		h.Dst = a
		checkNotPut(t, h)
		h.Src = source()
		checkNotPut(t, h)
		h.Dst = target()
		checkPut(t, h, laid(h), api.OK)
	}
}

// P9.3: what is laid is read as it was, of a packet of so many bytes, whatever it has and whatever stands behind; with fewer bytes it is refused.
func TestPutIsRead(t *testing.T) {
	for _, h := range headers() {
		b, e := Put(h)
		if e != api.OK {
			t.Errorf("Put(%v): %d", h, e)
		}
		whole := slices.Concat(b, text(h.Total-40))
		checkRead(t, whole, h, api.OK)
		checkRead(t, slices.Concat(whole, []byte{255, 0, 7}), h, api.OK)
		checkRead(t, slices.Concat(b, make([]byte, h.Total-40)), h, api.OK)
		checkRefused(t, whole[:h.Total-1], api.ErrEnd)
		checkRefused(t, whole[:39], api.ErrEnd)
		if h.Total > 40 {
			checkRefused(t, b, api.ErrEnd)
		}
	}
}

// P9.3: what is read, of a packet without extensions, is laid to what is read as the same.
func TestReadIsPut(t *testing.T) {
	c, n := chance(11), 0
	for range 50000 {
		b := c.some()
		h, e := Read(b)
		if e != api.OK {
			continue
		}
		if h.Exts > 0 {
			checkNotPut(t, h)
			continue
		}
		checkPut(t, h, laid(h), api.OK)
		checkRead(t, slices.Concat(laid(h), b[40:]), h, api.OK)
		n++
	}
	if n < 1000 {
		t.Error("few are without extensions:", n)
	}
}

// spoil overwrites bytes, with all the room behind their length.
func spoil(b []byte) {
	b = b[:cap(b)]
	for i := range b {
		b[i] = ^b[i]
	}
}

// P9.4: what is read stays, with the room behind it, which doesn't count and isn't kept.
func TestReadStays(t *testing.T) {
	nine := slices.Repeat([]ext{{60, 0, 0}}, 9)
	for _, b := range [][]byte{packet(6, 20), packet(6, 5, ext{0, 1, 0}, ext{44, 0, 0}), packet(6, 5, ext{51, 2, 0}, ext{44, 0, 1}), packet(17, 3, nine...), make([]byte, 60), packet(0, 0)} {
		for n := range len(b) + 1 {
			for _, tells := range []int{max(n-40, 0), len(b) - 40} {
				whole := slices.Concat(telling(b, tells), text(40))
				was := slices.Clone(whole)
				want, e := told(slices.Clone(whole[:n]))
				got, err := Read(whole[:n])
				if !bytes.Equal(whole, was) {
					t.Errorf("the first %d bytes: what was handed in is %x", n, whole)
				}
				spoil(whole)
				if err != e || got != want {
					t.Errorf("the first %d bytes: %v, %d, not %v, %d", n, got, err, want, e)
				}
			}
		}
	}
}

// P9.4: what is read once doesn't hang on what was read ahead of it.
func TestReadAgain(t *testing.T) {
	l := []ext{{0, 1, 0}, {44, 0, 1}}
	for range 3 {
		checkRead(t, packet(6, 9, l...), fragment(readAs(6, 9, l...)), api.OK)
		checkRead(t, packet(17, 0), readAs(17, 0), api.OK)
		checkRefused(t, packet(0, 9, slices.Repeat([]ext{{0, 0, 0}}, 8)...), api.ErrLong)
		checkRefused(t, packet(0, 0), api.ErrEnd)
	}
}

// P9.4: the bytes of a header are new memory, with the room behind them.
func TestPutIsNew(t *testing.T) {
	for _, h := range headers() {
		want := laid(h)
		first, _ := Put(h)
		second, _ := Put(h)
		spoil(first)
		checkPut(t, h, want, api.OK)
		if !bytes.Equal(second, want) {
			t.Errorf("%v: %x, not %x", h, second, want)
		}
	}
}
