package sip_test

import (
	"bytes"
	"slices"
	"testing"

	"wayleave/api"
	"wayleave/sip"
)

// none is the bytes of no address, and behind those of IPv4 twelve of them.
const (
	none   = "00 00 00 00 00 00 00 00 00 00 00 00 00 00 00 00"
	behind = "00 00 00 00 00 00 00 00 00 00 00 00"
	full   = "ff ff ff ff ff ff ff ff ff ff ff ff ff ff ff ff"
)

// P15.2: known tuples, their bytes, and the known hashes of these by the keys 00 01 .. 0f, of bytes 0 and of bytes 255.
func TestKnownTuples(t *testing.T) {
	all := ipv6(known(full))
	four := api.Tuple{Src: ipv4(10, 0, 0, 9), Dst: ipv4(5, 6, 7, 8), Proto: 6, Sport: 9, Dport: 80}
	for _, x := range []struct {
		t    api.Tuple
		want string
		hash [3]uint64
	}{
		{api.Tuple{Src: ipv4(1, 2, 3, 4), Dst: ipv4(5, 6, 7, 8), Proto: 17, Sport: 0x0102, Dport: 0xfffe},
			"04 01 02 03 04" + behind + "05 06 07 08" + behind + "11 01 02 ff fe", [3]uint64{0xb710f78d417dc08f, 0x88e18d1b79600845, 0xfca237511304386d}},
		{sixTuple(),
			"06 20 01 0d b8 01 02 03 04 05 06 07 08 09 0a 0b 0c fe 80 f1 f2 f3 f4 f5 f6 f7 f8 f9 fa fb fc fd ff 06 c0 01 00 50", [3]uint64{0xcc44cfd16e51ce22, 0xfffe0aefacb77e25, 0x6e4dc916da6074d3}},
		{api.Tuple{},
			"04" + none + none + "00 00 00 00 00", [3]uint64{0xed3d09c7cbbf4d5f, 0x763ef2d5de8c2c21, 0xde61ff05366ffe41}},
		{api.Tuple{Src: api.Addr{Six: true}, Dst: api.Addr{Six: true}},
			"06" + none + none + "00 00 00 00 00", [3]uint64{0x3f243e4f6158b4f9, 0xc3f29521d1434dfc, 0x36b7cf00739857da}},
		{api.Tuple{Src: all, Dst: all, Proto: 255, Sport: 65535, Dport: 65535},
			"06" + full + full + "ff ff ff ff ff", [3]uint64{0x1ff0cbf425889398, 0xa73359cfa3cad6c8, 0x7ba8370bee22761e}},
		{api.Tuple{Src: ipv4(255, 255, 255, 255), Dst: ipv4(255, 255, 255, 255), Proto: 255, Sport: 65535, Dport: 65535},
			"04 ff ff ff ff" + behind + "ff ff ff ff" + behind + "ff ff ff ff ff", [3]uint64{0xa087a3801936c4e9, 0xcce315a086fd27ec, 0xbfbefa9e20ff1277}},
		{four,
			"04 0a 00 00 09" + behind + "05 06 07 08" + behind + "06 00 09 00 50", [3]uint64{0x43a288972c1efa84, 0xfbb5d8e7676497a7, 0x7e1328458c27586e}},
		{api.Tuple{Src: four.Dst, Dst: four.Src, Proto: 6, Sport: 80, Dport: 9},
			"04 05 06 07 08" + behind + "0a 00 00 09" + behind + "06 00 50 00 09", [3]uint64{0x7522b56372e2c0ca, 0x99e6103200c84dcc, 0x17a17586384eeb78}},
	} {
		if b := sip.Bytes(x.t); !bytes.Equal(b, known(x.want)) {
			t.Errorf("%v: % x, not %s", x.t, b, x.want)
		}
		if h := [3]uint64{sip.Hash(upKey(), x.t), sip.Hash(noKey(), x.t), sip.Hash(fullKey(), x.t)}; h != x.hash {
			t.Errorf("%v: %x, not %x", x.t, h, x.hash)
		}
	}
}

// checkTuple holds a tuple's bytes, and their hash, against the words.
func checkTuple(t *testing.T, key [16]byte, x api.Tuple) {
	t.Helper()
	want := toldBytes(x)
	if b := sip.Bytes(x); !bytes.Equal(b, want) {
		t.Fatalf("%v: % x, not % x", x, b, want)
	}
	h := sip.Hash(key, x)
	if h != told(key, want) || h != sip.Of(key, sip.Bytes(x)) {
		t.Fatalf("% x, %v: %x, not %x", key, x, h, told(key, want))
	}
}

// P15.2: tuples with edges, and many by chance, against the words.
func TestTuplesByWords(t *testing.T) {
	for _, x := range tuples() {
		for _, key := range keys() {
			checkTuple(t, key, x)
		}
	}
	c := chance(152)
	for range 20000 {
		checkTuple(t, [16]byte(c.bytes(16)), c.tuple())
	}
}

// P15.2: each protocol, and each port on either side.
func TestEachNumber(t *testing.T) {
	for _, x := range []api.Tuple{fourTuple(), sixTuple()} {
		for n := range 65536 {
			y := x
			if n < 256 {
				y.Proto = n
				checkTuple(t, upKey(), y)
			}
			y = x
			y.Sport = n
			checkTuple(t, upKey(), y)
			y = x
			y.Dport = n
			checkTuple(t, upKey(), y)
		}
	}
}

// turned is the tuple of which one bit of its 38 bytes is another one; of the first byte, the family.
func turned(x api.Tuple, at int) api.Tuple {
	i, bit := at/8, at%8
	switch {
	case i == 0:
		x.Src.Six, x.Dst.Six = !x.Src.Six, !x.Dst.Six
	case i < 17:
		x.Src.B[i-1] ^= 1 << bit
	case i < 33:
		x.Dst.B[i-17] ^= 1 << bit
	case i == 33:
		x.Proto ^= 1 << bit
	case i < 36:
		x.Sport ^= 1 << bit << (8 * (35 - i))
	default:
		x.Dport ^= 1 << bit << (8 * (37 - i))
	}
	return x
}

// P15.2, P15.3: each bit of a tuple is in its place among the 38 bytes, turns no other byte, and counts in the hash.
func TestEachBitOfTuple(t *testing.T) {
	for _, x := range tuples() {
		was, hash := sip.Bytes(x), sip.Hash(otherKey(), x)
		if len(was) != 38 {
			t.Fatalf("%v: %d bytes", x, len(was))
		}
		for at := range 8 * 38 {
			y := turned(x, at)
			// Of IPv4 the bytes behind the fourth are 0.
			if i := (at/8 - 1) % 16; !x.Src.Six && at/8 > 0 && at/8 < 33 && i > 3 {
				continue
			}
			want := slices.Clone(was)
			if at/8 == 0 {
				want[0] ^= 4 ^ 6
			} else {
				want[at/8] ^= 1 << (at % 8)
			}
			if b := sip.Bytes(y); !bytes.Equal(b, want) {
				t.Fatalf("%v: % x, not % x", y, b, want)
			}
			if h := sip.Hash(otherKey(), y); h == hash || h != told(otherKey(), want) {
				t.Fatalf("%v: %x, not %x", y, h, told(otherKey(), want))
			}
		}
	}
}

// P15.3: unlike tuples have unlike bytes, and the same ones the same.
func TestUnlike(t *testing.T) {
	seen := map[string]api.Tuple{}
	see := func(x api.Tuple) {
		t.Helper()
		b := string(sip.Bytes(x))
		if y, is := seen[b]; is && y != x {
			t.Fatalf("%v and %v: % x", x, y, b)
		}
		seen[b] = x
	}
	unlike := map[api.Tuple]bool{}
	for _, x := range tuples() {
		for i := range 304 {
			y := turned(x, i)
			if !y.Src.Six && (!bytes.Equal(y.Src.B[4:], make([]byte, 12)) || !bytes.Equal(y.Dst.B[4:], make([]byte, 12))) {
				continue
			}
			see(y)
			unlike[y] = true
		}
		see(x)
		unlike[x] = true
	}
	c := chance(153)
	for range 20000 {
		x := c.tuple()
		see(x)
		unlike[x] = true
	}
	if len(seen) != len(unlike) {
		t.Errorf("%d bytes of %d tuples", len(seen), len(unlike))
	}
}

// P15.3: tuples that differ in one field, or have two of their fields at each other's places.
func TestUnlikeInOne(t *testing.T) {
	for _, x := range []api.Tuple{fourTuple(), sixTuple()} {
		six := x.Src.Six
		other := api.Addr{Six: six, B: [16]byte{9, 9, 9, 9}}
		l := slices.Repeat([]api.Tuple{x}, 12)
		l[1].Src = other
		l[2].Dst = other
		l[3].Proto = api.ProtoUdp
		l[4].Sport++
		l[5].Dport++
		l[6].Src, l[6].Dst = x.Dst, x.Src
		l[7].Sport, l[7].Dport = x.Dport, x.Sport
		l[8].Src, l[8].Dst, l[8].Sport, l[8].Dport = x.Dst, x.Src, x.Dport, x.Sport
		l[9].Sport = x.Sport%256*256 + x.Sport/256
		l[10].Dport = x.Dport%256*256 + x.Dport/256
		l[11].Proto, l[11].Sport, l[11].Dport = 0xc0, 0x0100, 0x5006
		for i, y := range l {
			for j, z := range l {
				same := bytes.Equal(sip.Bytes(y), sip.Bytes(z))
				if same != (i == j) || (sip.Hash(upKey(), y) == sip.Hash(upKey(), z)) != same {
					t.Errorf("%v and %v: % x and % x", y, z, sip.Bytes(y), sip.Bytes(z))
				}
			}
		}
	}
}

// P15.3: the family alone tells an address of IPv4 from one of IPv6 that begins so.
func TestFamilyAlone(t *testing.T) {
	c := chance(154)
	for range 2000 {
		x := c.tuple()
		x.Src, x.Dst = c.addr(false), c.addr(false)
		y := x
		y.Src.Six, y.Dst.Six = true, true
		b, d := sip.Bytes(x), sip.Bytes(y)
		if b[0] != 4 || d[0] != 6 || !bytes.Equal(b[1:], d[1:]) {
			t.Fatalf("%v: % x and % x", x, b, d)
		}
		if key := [16]byte(c.bytes(16)); sip.Hash(key, x) == sip.Hash(key, y) {
			t.Fatalf("% x, %v: %x", key, x, sip.Hash(key, x))
		}
	}
}

// P15.2: each bit of the key counts in a tuple's hash.
func TestKeyOfTuple(t *testing.T) {
	for _, x := range []api.Tuple{{}, fourTuple(), sixTuple()} {
		seen := map[uint64]int{sip.Hash(upKey(), x): -1}
		for i := range 128 {
			key := upKey()
			key[i/8] ^= 1 << (i % 8)
			checkTuple(t, key, x)
			h := sip.Hash(key, x)
			if j, is := seen[h]; is {
				t.Fatalf("%v, bits %d and %d: %x", x, i, j, h)
			}
			seen[h] = i
		}
	}
}

// P15.4: the bytes of each answer are new, with the room behind them.
func TestBytesNew(t *testing.T) {
	for _, x := range tuples() {
		was := x
		one, two := sip.Bytes(x), sip.Bytes(x)
		one = one[:cap(one)]
		for i := range one {
			one[i] ^= 255
		}
		if x != was || !bytes.Equal(two, toldBytes(x)) || !bytes.Equal(sip.Bytes(x), toldBytes(x)) {
			t.Fatalf("%v: % x", x, two)
		}
		if sip.Hash(upKey(), x) != told(upKey(), toldBytes(x)) {
			t.Fatalf("%v: another hash behind it", x)
		}
	}
}

// P15.2: what is answered of a tuple hangs on none that was asked ahead of it.
func TestTuplesAgain(t *testing.T) {
	l := tuples()
	var first []uint64
	for _, x := range l {
		first = append(first, sip.Hash(upKey(), x))
	}
	for i, x := range slices.Backward(l) {
		sip.Of(fullKey(), text(i))
		if h := sip.Hash(upKey(), x); h != first[i] || !bytes.Equal(sip.Bytes(x), toldBytes(x)) {
			t.Fatalf("%v: %x, then %x", x, first[i], h)
		}
	}
}
