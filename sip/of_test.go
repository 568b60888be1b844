package sip_test

import (
	"bytes"
	"slices"
	"testing"

	"wayleave/sip"
)

// P15.1: the known hashes of the bytes 0, 1, 2 and so on, by the key 00 01 .. 0f, from no bytes on.
func TestUpward(t *testing.T) {
	for n, want := range []uint64{
		0x726fdb47dd0e0e31, 0x74f839c593dc67fd, 0x0d6c8009d9a94f5a, 0x85676696d7fb7e2d,
		0xcf2794e0277187b7, 0x18765564cd99a68d, 0xcbc9466e58fee3ce, 0xab0200f58b01d137,
		0x93f5f5799a932462, 0x9e0082df0ba9e4b0, 0x7a5dbbc594ddb9f3, 0xf4b32f46226bada7,
		0x751e8fbc860ee5fb, 0x14ea5627c0843d90, 0xf723ca908e7af2ee, 0xa129ca6149be45e5,
		0x3f2acc7f57c29bdb, 0x699ae9f52cbe4794, 0x4bc1b3f0968dd39c, 0xbb6dc91da77961bd,
		0xbed65cf21aa2ee98, 0xd0f2cbb02e3b67c7, 0x93536795e3a33e88, 0xa80c038ccd5ccec8,
		0xb8ad50c6f649af94, 0xbce192de8a85b8ea, 0x17d835b85bbb15f3, 0x2f2e6163076bcfad,
		0xde4daaaca71dc9a5, 0xa6a2506687956571, 0xad87a3535c49ef28, 0x32d892fad841c342,
		0x7127512f72f27cce, 0xa7f32346f95978e3, 0x12e0b01abb051238, 0x15e034d40fa197ae,
		0x314dffbe0815a3b4, 0x027990f029623981, 0xcadcd4e59ef40c4d, 0x9abfd8766a33735c,
		0x0e3ea96b5304a7d0, 0xad0c42d6fc585992, 0x187306c89bc215a9, 0xd4a60abcf3792b95,
		0xf935451de4f21df2, 0xa9538f0419755787, 0xdb9acddff56ca510, 0xd06c98cd5c0975eb,
		0xe612a3cb9ecba951, 0xc766e62cfcadaf96, 0xee64435a9752fe72, 0xa192d576b245165a,
		0x0a8787bf8ecb74b2, 0x81b3e73d20b49b6f, 0x7fa8220ba3b2ecea, 0x245731c13ca42499,
		0xb78dbfaf3a8d83bd, 0xea1ad565322a1a0b, 0x60e61c23a3795013, 0x6606d7e446282b93,
		0x6ca4ecb15c5f91e1, 0x9f626da15c9625f3, 0xe51b38608ef25f57, 0x958a324ceb064572,
	} {
		if h := sip.Of(upKey(), upward(n)); h != want {
			t.Errorf("%d: %x, not %x", n, h, want)
		}
	}
}

// P15.1: the chapter's example.
func TestExample(t *testing.T) {
	key := [16]byte{0, 1, 2, 3, 4, 5, 6, 7, 8, 9, 10, 11, 12, 13, 14, 15}
	b := []byte{0, 1, 2, 3, 4, 5, 6, 7, 8, 9, 10, 11, 12, 13, 14}
	if h := sip.Of(key, b); h != 0xa129ca6149be45e5 {
		t.Errorf("%x", h)
	}
}

// P15.1: the known hashes of longer bytes, where of how many there are the rest by 256 alone counts.
func TestLong(t *testing.T) {
	for _, x := range []struct {
		n    int
		want uint64
	}{
		{254, 0x3675e5b469beb11f}, {255, 0xa9c169fec74db21a}, {256, 0x999d0526d2a7bfd7}, {257, 0x8a817b8d55b29748}, {258, 0x34904eaf09993c21},
		{511, 0x969303d05e5af242}, {512, 0x883b57c3e55ada0e}, {513, 0x90b6017f2031622b}, {1000, 0xdb9b3ed69e31c9a6},
	} {
		if h := sip.Of(upKey(), upward(x.n)); h != x.want {
			t.Errorf("%d: %x, not %x", x.n, h, x.want)
		}
	}
}

// P15.1: the known hashes of bytes 0 and of bytes 255, by keys of these.
func TestNoneAndFull(t *testing.T) {
	for _, x := range []struct {
		n    int
		want [4]uint64
	}{
		{0, [4]uint64{0x1e924b9d737700d7, 0x35dd279ee86ce565, 0x1e924b9d737700d7, 0x35dd279ee86ce565}},
		{1, [4]uint64{0x8b5a0baa49fbc58d, 0x63e8f5ae8073d111, 0x20dd4eb33d9590f2, 0xeb45304aebf4e114}},
		{7, [4]uint64{0x85f896b6040a13ec, 0x3f5cf6f23fa6bfff, 0x2e029c0a4c8f48e3, 0x7008818ecf918e11}},
		{8, [4]uint64{0xe849e8bb6ffe2567, 0x93e9a1f113e70a00, 0x8050c18b6ac9d15e, 0xf13e77491777f9d0}},
		{9, [4]uint64{0x2d508cd20c8f0cef, 0xc4d763fab367facd, 0xbe29d70ddcf7e35d, 0x1b8d0792b6620321}},
		{15, [4]uint64{0x97f21481e1333322, 0x48222c854e5773c1, 0xf3ba7836ceecdae2, 0x5c8ba31dbb0d14c8}},
		{16, [4]uint64{0x32caecc280172976, 0x35c8e6726a5f15cf, 0x76ce753d660f2d94, 0x1a27dd859ed29a2e}},
		{17, [4]uint64{0x30fed5b17612e278, 0xdae8fdca9aa3512c, 0x1be2b405e26ef4fc, 0x5bcee02a61c29836}},
		{255, [4]uint64{0x8b21238d5527793f, 0x6b30a7d3c1f5b672, 0xed6ad001220f838e, 0xb6da527cf0f604e3}},
		{256, [4]uint64{0x80d978d6fa417c1e, 0x90dad0fb812baea8, 0x3d1256410bf214a1, 0xc1774ddffc4ff77e}},
		{257, [4]uint64{0x2d0244227390b43d, 0xc70fea7105b10b4f, 0x638e4604e867face, 0xf4ba1291607478ee}},
		{263, [4]uint64{0x465b05e4f3edd87c, 0x064978bcd641ef9f, 0xc2802cdf7783aea4, 0x86037038a28b25f1}},
		{264, [4]uint64{0x1e6aad9da5a90692, 0x73b39b9164ad93af, 0x9f21025f3d5432ad, 0xedae5706ed50c331}},
		{511, [4]uint64{0x18c334e474be17eb, 0x80fd2a3adf7ed686, 0xe4ec18486eb7db2a, 0x0dc8a2afb64c02dc}},
		{512, [4]uint64{0x8c1f7f6785370046, 0x952aa1723f12789e, 0x294f1507212736ec, 0x0a68ec116f24c349}},
		{513, [4]uint64{0x0a3c26e8513d93ab, 0x11ee9fc6d55b5c12, 0x27cb496f9ade355e, 0x5c17e5d557a99868}},
		{1024, [4]uint64{0x741f1b50e74c6ecf, 0x5594fd5953cf532f, 0xa76790dc2ba8c62b, 0xfb09d4e24bb19f9a}},
		{65535, [4]uint64{0x97ef4aebddc15dfd, 0xef60ae03971e00a4, 0x6b1eb77e511f0431, 0x36d2fbf8b46d1b0c}},
		{65536, [4]uint64{0x21dff7a5de8619ae, 0x49633a0f438bb577, 0xe7ce25c1ecc1c0b0, 0x8adaa4fb94297e78}},
		{65537, [4]uint64{0x8e8d6a5f052fa019, 0xc1725aefb8911bed, 0x7550912504a10656, 0xd5cefa4e5bd0b2e1}},
	} {
		none, full := make([]byte, x.n), bytes.Repeat([]byte{255}, x.n)
		got := [4]uint64{sip.Of(noKey(), none), sip.Of(fullKey(), none), sip.Of(noKey(), full), sip.Of(fullKey(), full)}
		if got != x.want {
			t.Errorf("%d: %x, not %x", x.n, got, x.want)
		}
	}
}

// P15.1: the known hashes by keys of one bit, and by one whose bytes are unlike.
func TestKnownKeys(t *testing.T) {
	for _, x := range []struct {
		key                string
		none, name, letter uint64
	}{
		{"01 00 00 00 00 00 00 00 00 00 00 00 00 00 00 00", 0x54e761ac4b1ca3de, 0xe75b7132224b6334, 0xb756d69b679d63d1},
		{"80 00 00 00 00 00 00 00 00 00 00 00 00 00 00 00", 0x11480bf1787e2873, 0xe36dcf636cb7c8b6, 0xf26f5a3e06699ebe},
		{"00 00 00 00 00 00 00 00 00 00 00 00 00 00 00 01", 0xd12a4804ac752352, 0xa0ab30be4971a667, 0x0f3e0846e5a0a820},
		{"00 00 00 00 00 00 00 00 00 00 00 00 00 00 00 80", 0x87f7600ac7c98ce8, 0x76ff201497ff3e3e, 0x66719391b0fe8562},
		{"00 00 00 00 00 00 00 01 00 00 00 00 00 00 00 00", 0x3dd294f3358771a2, 0x047eb246a844650f, 0x11a56b34f71b064e},
		{"00 00 00 00 00 00 00 00 01 00 00 00 00 00 00 00", 0xc4235c5247d6521c, 0x4839504d642a0902, 0xce0f195d509eeb6e},
		{"f0 e1 d2 c3 b4 a5 96 87 78 69 5a 4b 3c 2d 1e 0f", 0x63fc4360a74e3e78, 0xf270e838904ec2ac, 0x963cfd755f0b19e9},
	} {
		key := [16]byte(known(x.key))
		if h := sip.Of(key); h != x.none {
			t.Errorf("%s, nothing: %x, not %x", x.key, h, x.none)
		}
		if h := sip.Of(key, []byte("wayleave")); h != x.name {
			t.Errorf("%s, wayleave: %x, not %x", x.key, h, x.name)
		}
		if h := sip.Of(key, []byte("a")); h != x.letter {
			t.Errorf("%s, a: %x, not %x", x.key, h, x.letter)
		}
	}
}

// P15.1: no parts are no bytes, and so are parts of none, however many there are.
func TestNoParts(t *testing.T) {
	for _, key := range keys() {
		want := told(key, nil)
		for i, h := range []uint64{
			sip.Of(key), sip.Of(key, nil), sip.Of(key, []byte{}), sip.Of(key, [][]byte{}...), sip.Of(key, [][]byte(nil)...),
			sip.Of(key, nil, nil), sip.Of(key, []byte{}, nil, []byte{}), sip.Of(key, make([][]byte, 300)...), sip.Of(key, slices.Repeat([][]byte{{}}, 8)...), sip.Of(key, text(9)[9:]),
		} {
			if h != want {
				t.Errorf("% x, %d: %x, not %x", key, i, h, want)
			}
		}
	}
}

// P15.1: parts of no bytes, at each place, don't count.
func TestEmptyParts(t *testing.T) {
	for _, size := range []int{1, 7, 8, 9, 15, 16, 17, 24, 255, 256, 257} {
		b := text(size)
		want := told(otherKey(), b)
		whole := [][]byte{b[:size/3], b[size/3 : size/2], b[size/2:]}
		for _, empty := range [][]byte{nil, {}, b[size:]} {
			for at := range len(whole) + 1 {
				for many := range 10 {
					parts := slices.Insert(slices.Clone(whole), at, slices.Repeat([][]byte{empty}, many)...)
					if h := sip.Of(otherKey(), parts...); h != want {
						t.Fatalf("%d bytes, %d empty ones at %d: %x, not %x", size, many, at, h, want)
					}
				}
			}
			if h := sip.Of(otherKey(), empty, b[:size/2], empty, empty, b[size/2:], empty); h != want {
				t.Fatalf("%d bytes, empty ones all over: %x, not %x", size, h, want)
			}
		}
	}
}

// lengths are those near to each other at first, and then around edges.
func lengths() []int {
	var l []int
	for n := range 90 {
		l = append(l, n)
	}
	for _, n := range []int{120, 128, 248, 256, 264, 504, 512, 520, 1024, 4096, 65536} {
		for by := -9; by < 10; by++ {
			l = append(l, n+by)
		}
	}
	return l
}

// P15.1: bytes of each length, against the words.
func TestByWords(t *testing.T) {
	for _, n := range lengths() {
		for _, b := range [][]byte{text(n), upward(n), make([]byte, n), bytes.Repeat([]byte{255}, n)} {
			for _, key := range keys() {
				checkHash(t, key, b)
			}
		}
	}
}

// P15.1: of bytes 0, each length has another hash.
func TestLengthCounts(t *testing.T) {
	for _, key := range keys() {
		seen := map[uint64]int{}
		for n := range 1200 {
			h := checkHash(t, key, make([]byte, n))
			if m, is := seen[h]; is {
				t.Fatalf("% x: %d and %d bytes: %x", key, m, n, h)
			}
			seen[h] = n
		}
	}
}

// P15.1: the same bytes, parted at each place into two and into three, and byte by byte.
func TestParted(t *testing.T) {
	for n := range 40 {
		b := text(n)
		want := checkHash(t, otherKey(), b)
		for i := range n + 1 {
			if h := sip.Of(otherKey(), b[:i], b[i:]); h != want {
				t.Fatalf("%d bytes, parted at %d: %x, not %x", n, i, h, want)
			}
			for j := i; j <= n; j++ {
				if h := sip.Of(otherKey(), b[:i], b[i:j], b[j:]); h != want {
					t.Fatalf("%d bytes, parted at %d and %d: %x, not %x", n, i, j, h, want)
				}
			}
		}
	}
}

// P15.1: longer bytes, parted at each place, and into parts of each size, one byte at first.
func TestPartedLong(t *testing.T) {
	for _, n := range []int{63, 64, 65, 255, 256, 257, 300, 512, 513} {
		b := text(n)
		want := checkHash(t, upKey(), b)
		for i := range n + 1 {
			if h := sip.Of(upKey(), b[:i], b[i:]); h != want {
				t.Fatalf("%d bytes, parted at %d: %x, not %x", n, i, h, want)
			}
		}
		for size := 1; size < 40; size++ {
			if h := sip.Of(upKey(), slices.Collect(slices.Chunk(b, size))...); h != want {
				t.Fatalf("%d bytes, in parts of %d: %x, not %x", n, size, h, want)
			}
		}
	}
}

// P15.1: the parts' order counts.
func TestOrder(t *testing.T) {
	a, b, c := []byte("one"), []byte("other"), []byte("more")
	l := []uint64{sip.Of(upKey(), a, b, c), sip.Of(upKey(), a, c, b), sip.Of(upKey(), b, a, c), sip.Of(upKey(), b, c, a), sip.Of(upKey(), c, a, b), sip.Of(upKey(), c, b, a)}
	if l[0] != told(upKey(), []byte("oneothermore")) || l[5] != told(upKey(), []byte("moreotherone")) {
		t.Errorf("%x", l)
	}
	if slices.Sort(l); len(slices.Compact(l)) != 6 {
		t.Errorf("%x", l)
	}
}

// P15.1: each bit of the key counts.
func TestEachBitOfKey(t *testing.T) {
	for _, n := range []int{0, 1, 7, 8, 15, 16, 38, 257} {
		for _, key := range keys() {
			seen := map[uint64]int{checkHash(t, key, text(n)): -1}
			for i := range 128 {
				turned := key
				turned[i/8] ^= 1 << (i % 8)
				h := checkHash(t, turned, text(n))
				if j, is := seen[h]; is {
					t.Fatalf("% x, %d bytes, bits %d and %d: %x", key, n, i, j, h)
				}
				seen[h] = i
			}
		}
	}
}

// P15.1: each bit of the bytes counts.
func TestEachBitOfBytes(t *testing.T) {
	for _, n := range []int{1, 7, 8, 9, 15, 16, 17, 23, 24, 25, 38, 64, 255, 256, 257} {
		for _, key := range keys() {
			b := text(n)
			seen := map[uint64]int{checkHash(t, key, b): -1}
			for i := range 8 * n {
				b[i/8] ^= 1 << (i % 8)
				h := checkHash(t, key, b)
				b[i/8] ^= 1 << (i % 8)
				if j, is := seen[h]; is {
					t.Fatalf("% x, %d bytes, bits %d and %d: %x", key, n, i, j, h)
				}
				seen[h] = i
			}
		}
	}
}

// P15.1, P1: any bytes in any parts by any key, against the words.
func TestAnyParts(t *testing.T) {
	c := chance(15)
	for range 20000 {
		key := [16]byte(c.bytes(16))
		var parts [][]byte
		for range c.next() % 7 {
			parts = append(parts, c.bytes(int(c.next()%20)))
		}
		if c.next()%50 == 0 {
			parts = append(parts, c.bytes(int(c.next()%700)))
		}
		all := bytes.Join(parts, nil)
		if h := sip.Of(key, parts...); h != told(key, all) {
			t.Fatalf("% x, % x: %x, not %x", key, parts, h, told(key, all))
		}
	}
}

// P15.4: parts that are handed in stay, with the room behind each one's length and that behind the list's.
func TestPartsStay(t *testing.T) {
	for _, n := range []int{0, 1, 5, 7, 8, 9, 16, 39} {
		room := text(120)
		was := bytes.Clone(room)
		list := [][]byte{room[:n], room[40 : 40+n], nil, room[80 : 80+n], room, []byte("behind")}
		h := sip.Of(upKey(), list[:4]...)
		if want := told(upKey(), slices.Concat(was[:n], was[40:40+n], was[80:80+n])); h != want {
			t.Fatalf("%d bytes each: %x, not %x", n, h, want)
		}
		if !bytes.Equal(room, was) {
			t.Fatalf("%d bytes each: % x", n, room)
		}
		if len(list[0]) != n || len(list[1]) != n || list[2] != nil || len(list[3]) != n || len(list[4]) != 120 || string(list[5]) != "behind" {
			t.Fatalf("%d bytes each: % x", n, list)
		}
		for i := range 3 {
			if n > 0 && &list[[]int{0, 1, 3}[i]][0] != &room[40*i] {
				t.Fatalf("%d bytes each: part %d is another one", n, i)
			}
		}
	}
}

// P15.4: parts that were handed in aren't kept: a hash hangs on what they are when it is asked.
func TestPartsNotKept(t *testing.T) {
	b := text(30)
	first := sip.Of(upKey(), b[:11], b[11:])
	clear(b)
	if h := sip.Of(upKey(), b[:11], b[11:]); h != told(upKey(), make([]byte, 30)) {
		t.Errorf("turned to 0: %x", h)
	}
	if h := sip.Of(upKey(), text(30)); h != first || h != told(upKey(), text(30)) {
		t.Errorf("again: %x, not %x", h, first)
	}
}

// P15.1: a hash hangs on none that was asked ahead of it.
func TestAgain(t *testing.T) {
	c := chance(151)
	type asked struct {
		key [16]byte
		b   []byte
		h   uint64
	}
	var l []asked
	for range 300 {
		x := asked{key: [16]byte(c.bytes(16)), b: c.bytes(int(c.next() % 60))}
		x.h = sip.Of(x.key, x.b)
		l = append(l, x)
	}
	for _, x := range slices.Backward(l) {
		if h := sip.Of(x.key, x.b); h != x.h {
			t.Fatalf("% x, % x: %x, then %x", x.key, x.b, x.h, h)
		}
	}
}
