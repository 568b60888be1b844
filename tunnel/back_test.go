package tunnel_test

import (
	"bytes"
	"slices"
	"testing"

	"wayleave/api"
	"wayleave/packet"
	"wayleave/tunnel"
)

// P13.3: what is wrapped once is unwrapped as it was, up to the end of its IP packet.
func TestBack(t *testing.T) {
	for _, b := range frames() {
		for _, six := range []bool{false, true} {
			for _, x := range tunnels(six) {
				for _, tail := range [][]byte{nil, text(9)} {
					checkBack(t, slices.Concat(wrapped(t, slices.Concat(b, tail), x), tail), b)
				}
			}
		}
	}
}

// P13.3: wrapped twice, by both families in each order, with other bytes behind each time.
func TestBackTwice(t *testing.T) {
	for _, b := range frames() {
		for _, x := range one() {
			for _, y := range one() {
				in := wrapped(t, b, x)
				out := wrapped(t, slices.Concat(in, text(5)), y)
				checkBack(t, slices.Concat(out, text(7)), in)
				checkBack(t, slices.Concat(unwrapped(t, out), text(3)), b)
			}
		}
	}
}

// layers are the frame wrapped again and again, by one tunnel behind the other in turn, till it is too long.
func layers(t *testing.T, b []byte, turn []ends) [][]byte {
	t.Helper()
	l := [][]byte{b}
	for {
		x := turn[len(l)%len(turn)]
		got, e := tunnel.Wrap(l[len(l)-1], x.src, x.dst)
		checkWrap(t, l[len(l)-1], x)
		if e != api.OK {
			return l
		}
		l = append(l, got)
	}
}

// P13.3: wrapped as often as there is room, by one family and by both in turn, it is unwrapped step by step.
func TestBackOften(t *testing.T) {
	by4, by6 := one()[0], one()[1]
	for _, turn := range [][]ends{{by4}, {by6}, {by4, by6}, {by6, by6, by4}} {
		for i, b := range [][]byte{frame(0, packet4(nil, 0, 17, text(9))), frame(2, packet6(nil, 17, text(31000)))} {
			l := layers(t, b, turn)
			if len(l) < 500 {
				t.Errorf("wrapped only %d times by %v, frame %d", len(l)-1, turn, i)
			}
			now := l[len(l)-1]
			for n := len(l) - 2; n >= 0; n-- {
				now = unwrapped(t, now)
				if !bytes.Equal(now, l[n]) {
					t.Fatalf("unwrapped to layer %d: %x, not %x", n, short(now), short(l[n]))
				}
			}
			checkNoUnwrap(t, now)
		}
	}
}

// tuples are of both protocols and families.
func tuples() []api.Tuple {
	l := []api.Tuple{}
	for _, x := range slices.Concat(tunnels(false), tunnels(true)) {
		for _, proto := range []int{6, 17} {
			l = append(l, api.Tuple{Src: x.src, Dst: x.dst, Proto: proto, Sport: 4660, Dport: 53})
		}
	}
	return l
}

// P13.3: what chapter 11 makes is wrapped, and read as neither TCP nor UDP; unwrapped it is as it was made.
func TestMade(t *testing.T) {
	for _, tags := range [][]api.Tag{nil, {{Type: api.TagVlan, Tci: 7}}, {{Type: api.TagService, Tci: 65535}, {Type: api.TagVlan}}} {
		for _, u := range tuples() {
			for _, size := range []int{0, 1, 6, 1400} {
				b, e := packet.Make(api.Link{Dst: [6]byte{1, 2, 3}, Src: [6]byte{4, 5, 6}, Tags: tags}, u, 0, text(size))
				if e != api.OK {
					t.Fatalf("%v: %d", u, e)
				}
				checkNoUnwrap(t, b)
				for _, x := range one() {
					out := wrapped(t, slices.Concat(b, text(size%5)), x)
					checkWrap(t, b, x)
					if p := packet.Read(out); p != (api.Packet{Kind: api.AlienPort}) {
						t.Errorf("%v, wrapped, is read as %v", u, p)
					}
					checkBack(t, out, b)
				}
			}
		}
	}
}

// P13.4: what is handed in to Wrap stays, with the room behind it, and isn't kept: what was answered doesn't change with it.
func TestWrapStays(t *testing.T) {
	for _, b := range frames() {
		for _, x := range one() {
			whole := slices.Concat(b, text(90))
			was := slices.Clone(whole)
			want, _ := toldWrap(b, x)
			got := wrapped(t, whole[:len(b)], x)
			checkNoWrap(t, whole[:len(b)-1], x, api.ErrForm)
			checkNoWrap(t, whole[:len(b)], twoFamilies()[0], api.ErrArg)
			if !bytes.Equal(whole, was) {
				t.Errorf("Wrap(%x, %v): what was handed in is %x", b, x, whole)
			}
			spoil(whole)
			if !bytes.Equal(got, want) {
				t.Errorf("Wrap(%x, %v): %x, not %x", b, x, got, want)
			}
		}
	}
}

// P13.4: what is handed in to Unwrap stays, likewise.
func TestUnwrapStays(t *testing.T) {
	for _, b := range frames() {
		for _, x := range one() {
			out := slices.Concat(wrapped(t, b, x))
			whole := slices.Concat(out, text(90))
			was := slices.Clone(whole)
			got := unwrapped(t, whole[:len(out)])
			checkNoUnwrap(t, whole[:len(out)-1])
			if !bytes.Equal(whole, was) {
				t.Errorf("Unwrap(%x): what was handed in is %x", out, whole)
			}
			spoil(whole)
			if !bytes.Equal(got, b) {
				t.Errorf("Unwrap(%x): %x, not %x", out, got, b)
			}
		}
	}
}

// P13.4: what is answered is new memory: neither what was handed in nor another answer has any of it, in the room behind it either.
func TestNewMemory(t *testing.T) {
	for _, b := range frames() {
		for _, x := range one() {
			whole := slices.Concat(b, text(90))
			was := slices.Clone(whole)
			first, second := wrapped(t, whole[:len(b)], x), wrapped(t, whole[:len(b)], x)
			want := slices.Clone(second)
			one, other := unwrapped(t, first), unwrapped(t, first)
			spoil(one)
			if !bytes.Equal(first, want) || !bytes.Equal(other, b) {
				t.Errorf("Unwrap(%x): its answer shares memory", want)
			}
			spoil(first)
			if !bytes.Equal(whole, was) || !bytes.Equal(second, want) {
				t.Errorf("Wrap(%x, %v): its answer shares memory", b, x)
			}
		}
	}
}

// P13.1, P13.2: what is answered doesn't hang on what was asked ahead of it, a call that was refused among it.
func TestAgain(t *testing.T) {
	for range 2 {
		for _, b := range few() {
			for _, x := range one() {
				checkWrap(t, b, x)
				checkNoWrap(t, b, twoFamilies()[1], api.ErrArg)
				checkNoWrap(t, b[:9], x, api.ErrForm)
				checkNoUnwrap(t, b)
				checkBack(t, wrapped(t, b, x), b)
				checkWrap(t, b, x)
			}
		}
	}
}

// packet is one of any kind, which carries another one, or what may be none, to some depth.
func (c *chance) packet(depth int) []byte {
	proto, body := c.of(4, 6, 17, 41, 59, c.below(256)), text(c.below(40))
	if depth > 0 {
		body = c.packet(c.below(depth))
		if c.below(8) > 0 {
			proto = protoOf(body)
		}
		body = slices.Concat(body, text(c.of(0, 0, c.below(9))))
		body = body[:len(body)-c.of(0, 0, 0, c.below(1+len(body)))]
	}
	if c.below(2) == 0 {
		return packet4(text(4*c.of(0, 0, c.below(11))), c.of(0, 0, 0x4000, 0x8000, 0x2000, c.below(65536)), proto, body)
	}
	kinds := []int{}
	for range c.of(0, 0, 0, c.below(10)) {
		kinds = append(kinds, c.of(0, 43, 44, 51, 60))
	}
	if len(kinds) == 0 && c.below(6) == 0 {
		return packet6(slices.Concat([]byte{byte(proto), 0}, two(c.of(0, 6, 1, 8, c.below(65536))), text(4)), 44, body)
	}
	return behind(kinds, proto, body)
}

// end is an address of any kind, now and then none of a family.
func (c *chance) end(six bool) api.Addr {
	a := api.Addr{Six: six}
	for i := range map[bool]int{false: 4, true: 16}[six] {
		a.B[i] = byte(c.of(0, 255, c.below(256)))
	}
	if c.below(20) == 0 {
		a.B[c.below(16)] = byte(c.below(256))
	}
	return a
}

// P1, P13.1 to P13.3: frames of all shapes, one within the other, with bytes changed now and then, cut off, and others behind, against the words.
func TestByWords(t *testing.T) {
	c := chance(13)
	met := [2]map[api.Errno]int{{}, {}}
	for range 200000 {
		b := slices.Concat(frame(c.below(3), c.packet(c.below(4))), text(c.of(0, 0, c.below(9))))
		if c.below(8) == 0 {
			b = with(b, c.below(len(b)), byte(c.of(0, 255, c.below(256))))
		}
		if c.below(10) == 0 {
			b = b[:c.below(len(b)+1)]
		}
		six := c.below(2) == 0
		x := ends{c.end(six), c.end(six != (c.below(9) == 0))}
		checkWrap(t, b, x)
		checkUnwrap(t, b)
		got, e := tunnel.Wrap(b, x.src, x.dst)
		met[0][e]++
		if e == api.OK {
			at, h, _ := toldPacket(b)
			checkBack(t, got, b[:at+h.total])
		}
		_, e = tunnel.Unwrap(b)
		met[1][e]++
	}
	for _, e := range []api.Errno{api.OK, api.ErrForm} {
		if met[0][e] < 10000 || met[1][e] < 10000 || met[0][api.ErrArg] < 10000 {
			t.Errorf("what was met, of Wrap and of Unwrap: %v", met)
		}
	}
}

// P1: whatever bytes and addresses come, calls end, and answer what the words say.
func TestAnyBytes(t *testing.T) {
	c := chance(1)
	for range 100000 {
		b := make([]byte, c.below(160))
		for i := range b {
			b[i] = byte(c.of(0, 255, c.below(256)))
		}
		if len(b) > 14 {
			copy(b[12:], two(c.of(0x0800, 0x86dd, 0x8100)))
			b[14] = byte(c.of(0x45, 0x60, 0x4f))
		}
		if len(b) > 20 && c.below(2) == 0 {
			copy(b[18:], []byte{0, byte(c.below(120)), byte(c.of(4, 41, 0, 60))})
		}
		checkWrap(t, b, ends{c.end(c.below(2) == 0), c.end(c.below(2) == 0)})
		checkUnwrap(t, b)
	}
}
