package tunnel_test

import (
	"slices"
	"testing"

	"wayleave/api"
)

// protoOf is the protocol by which the packet is carried.
func protoOf(packet []byte) int {
	if packet[0]/16 == 6 {
		return api.ProtoSix
	}
	return api.ProtoFour
}

// outers are packets of all shapes that carry body, all of them no fragments.
func outers(proto int, body []byte) [][]byte {
	l := [][]byte{}
	for _, options := range [][]byte{nil, text(4), text(40)} {
		for _, bits := range []int{0, 0x4000, 0x8000, 0xc000} {
			l = append(l, packet4(options, bits, proto, body))
		}
	}
	l = append(l, packet6(nil, proto, body))
	for n := range 9 {
		l = append(l, behind(eight()[:n], proto, body), behind(eight()[8-n:], proto, body))
	}
	return l
}

// fragments are packets of all shapes that carry body, all of them fragments.
func fragments(proto int, body []byte) [][]byte {
	l := [][]byte{}
	for _, bits := range []int{0x2000, 1, 0x1fff, 0x6000, 0xffff, 0x1000, 0xa000} {
		l = append(l, packet4(nil, bits, proto, body), packet4(text(8), bits, proto, body))
	}
	for _, bits := range []int{1, 8, 0x10, 0x80, 0x100, 0x8000, 0xfff8, 0xffff, 7} {
		part := slices.Concat([]byte{byte(proto), 0}, two(bits), text(4))
		l = append(l, packet6(part, 44, body), packet6(slices.Concat([]byte{44, 0}, text(6), part), 60, body))
	}
	return l
}

// inners are a few packets of both families, of the shapes there are.
func inners() [][]byte {
	return [][]byte{
		packet4(nil, 0, 17, nil), packet4(text(8), 0x4000, 6, text(21)), packet4(nil, 0x2001, 17, text(3)), packet4(nil, 0, 4, text(9)),
		packet6(nil, 59, nil), packet6(nil, 17, text(21)), behind(eight(), 6, text(5)), packet6([]byte{17, 0, 255, 255, 1, 2, 3, 4}, 44, text(3)),
	}
}

// P13.2: what packets of all shapes carry, behind no tag, one and two; what is behind the inner packet goes, within the outer one and behind it.
func TestUnwrap(t *testing.T) {
	for i, p := range inners() {
		for _, rest := range [][]byte{nil, {0}, text(30), p} {
			for j, outer := range outers(protoOf(p), slices.Concat(p, rest)) {
				for _, tail := range [][]byte{nil, {7}, text(46)} {
					tags := (i + j) % 3
					b := slices.Concat(frame(tags, outer), tail)
					checkBack(t, b, frame(tags, p))
					checkUnwrap(t, b)
				}
			}
		}
	}
}

// P13.2: all packets that there are, within all that there are.
func TestUnwrapAll(t *testing.T) {
	for _, b := range frames() {
		checkUnwrap(t, b)
	}
	for _, p := range slices.Concat(fours(), sixes()) {
		for tags := range 3 {
			for _, outer := range [][]byte{packet4(nil, 0, protoOf(p), p), packet6(nil, protoOf(p), p)} {
				checkBack(t, frame(tags, outer), frame(tags, p))
			}
		}
	}
}

// P13.2: each Proto that is neither of the two, and those two over the other family.
func TestOtherProto(t *testing.T) {
	for _, p := range inners() {
		for proto := range 256 {
			for _, outer := range [][]byte{packet4(nil, 0, proto, p), packet4(text(8), 0x4000, proto, p), packet6(nil, proto, p), behind([]int{60, 0}, proto, p)} {
				b := frame(proto%3, outer)
				checkUnwrap(t, b)
				if proto == protoOf(p) {
					checkBack(t, b, frame(proto%3, p))
				} else if proto != 0 && proto != 43 && proto != 44 && proto != 51 && proto != 60 || outer[0]/16 == 4 {
					checkNoUnwrap(t, b)
				}
			}
		}
	}
}

// P13.2: fragments, the first ones among them, which carry a whole packet.
func TestFragments(t *testing.T) {
	for _, p := range inners() {
		for i, outer := range fragments(protoOf(p), p) {
			checkNoUnwrap(t, frame(i%3, outer))
		}
	}
}

// P13.2: frames that have no IP packet, though what is in them would be a tunnel's.
func TestUnwrapNoPacket(t *testing.T) {
	for _, b := range notIp() {
		checkNoUnwrap(t, b)
	}
	for _, p := range inners() {
		for _, outer := range [][]byte{packet4(nil, 0, protoOf(p), p), packet6(nil, protoOf(p), p)} {
			for n := range 65536 {
				if n%7 == 0 && n != 0x0800 && n != 0x86dd {
					checkNoUnwrap(t, slices.Concat(ether(n%3, n), outer))
				}
			}
			other := map[int]int{4: 0x86dd, 6: 0x0800}[int(outer[0]/16)]
			checkNoUnwrap(t, slices.Concat(ether(1, other), outer))
			checkNoUnwrap(t, frame(1, outer)[:18+len(outer)-1])
		}
		outer := packet4(nil, 0, protoOf(p), p)
		for i := range 20 {
			checkNoUnwrap(t, frame(2, with(outer, i, outer[i]+1)))
		}
	}
}

// P13.2: nothing within, or what is no packet by the chapter of that family, for each reason.
func TestNothingWithin(t *testing.T) {
	for i, proto := range []int{4, 41} {
		within := [][][]byte{notFour(), notSix()}[i]
		for _, bad := range append(within, nil, inners()[4-4*i]) {
			for j, outer := range outers(proto, bad) {
				checkNoUnwrap(t, frame(j%3, outer))
			}
		}
	}
}

// P13.2: what is within, cut off at each byte, though what it lacks is behind the outer packet, or in the room behind the frame's length.
func TestWithinCut(t *testing.T) {
	for _, p := range inners() {
		for n := range len(p) {
			for i, outer := range outers(protoOf(p), p[:n]) {
				b := slices.Concat(frame(i%3, outer), p[n:], text(9))
				checkNoUnwrap(t, b)
				checkNoUnwrap(t, b[:len(b)-len(p[n:])-9])
			}
		}
	}
}

// P13.2: a frame that is cut off at each byte, with what it lacks in the room behind its length.
func TestUnwrapCut(t *testing.T) {
	for _, p := range inners() {
		for i, outer := range outers(protoOf(p), p) {
			b := frame(i%3, outer)
			for n := range len(b) {
				checkNoUnwrap(t, b[:n])
			}
		}
	}
}

// P13.2: no more is taken off than one packet, whatever is within that one.
func TestOneOff(t *testing.T) {
	for _, p := range inners() {
		p = packet4(nil, 0, protoOf(p), p)
		for _, outer := range outers(4, p) {
			checkBack(t, frame(0, outer), frame(0, p))
		}
		p = packet6(nil, protoOf(p), p)
		for _, outer := range outers(41, p) {
			checkBack(t, frame(1, outer), frame(1, p))
		}
	}
}

// P13.2: the longest packets, within and without.
func TestUnwrapLongest(t *testing.T) {
	for _, p := range [][]byte{packet4(nil, 0, 17, text(65515-20)), packet6(nil, 17, text(65515-40))} {
		checkBack(t, frame(0, packet4(nil, 0, protoOf(p), p)), frame(0, p))
	}
	for _, p := range [][]byte{packet4(nil, 0, 17, text(65535-20)), packet6(nil, 17, text(65535-40))} {
		checkBack(t, frame(2, packet6(nil, protoOf(p), p)), frame(2, p))
	}
}

// P13.2: with any one bit of a wrapped frame turned it is unwrapped if it is a tunnel's still, and else refused.
func TestUnwrapEachBit(t *testing.T) {
	for _, b := range few() {
		for _, x := range one() {
			b := wrapped(t, b, x)
			for bit := range 8 * len(b) {
				checkUnwrap(t, with(b, bit/8, b[bit/8]^1<<(bit%8)))
			}
		}
	}
}
