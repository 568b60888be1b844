package perm_test

import (
	"bytes"
	"testing"

	"wayleave/perm"
	"wayleave/sip"
)

// P16.2: known hashes of the name with a byte 0 and with a byte 1 behind it, and their rests for the sizes 2, 3, 251 and 65537.
func TestKnown(t *testing.T) {
	for _, x := range []struct {
		key    [16]byte
		name   string
		offset uint64
		skip   uint64
		want   [4][2]int
	}{
		{upKey(), "", 0x74f839c593dc67fd, 0x6e534dc3c9ab17a2, [4][2]int{{1, 1}, {0, 1}, {51, 3}, {39151, 6051}}},
		{upKey(), "a", 0xbfe40170b993de01, 0xa9a6941a2626a974, [4][2]int{{1, 1}, {1, 1}, {116, 81}, {26107, 43381}}},
		{upKey(), "web", 0xb4003f5da2e2b70f, 0x3f4f7b46745c3230, [4][2]int{{1, 1}, {1, 1}, {182, 177}, {40843, 12849}}},
		{upKey(), "backend-1", 0x71045b05fd23569a, 0x80b79610e7384c4b, [4][2]int{{0, 1}, {0, 2}, {11, 186}, {17273, 19532}}},
		{upKey(), "\x00", 0x512233290cc28bde, 0x0d6c8009d9a94f5a, [4][2]int{{0, 1}, {0, 1}, {48, 29}, {24867, 20315}}},
		{upKey(), "\x01", 0x50c8674a94d40afd, 0x526078bc0b8ca1ac, [4][2]int{{1, 1}, {0, 1}, {65, 51}, {36012, 41389}}},
		{upKey(), "a\x00", 0xda6b5c5056f1b17d, 0xc955104df9f45645, [4][2]int{{1, 1}, {1, 2}, {231, 8}, {56434, 22086}}},
		{upKey(), "a\x01", 0xdf257a42933ec2e2, 0x34a933484865450e, [4][2]int{{0, 1}, {0, 1}, {141, 41}, {51906, 17679}}},
		{upKey(), "\xff\xfe\x80", 0x2e33c16ae1efcaf1, 0x974601883a29644e, [4][2]int{{1, 1}, {1, 1}, {51, 221}, {31801, 25679}}},
		{upKey(), "twenty-four bytes long..", 0xfeb13aec73695938, 0xf6e13421263f70c1, [4][2]int{{0, 1}, {1, 2}, {170, 68}, {8715, 28866}}},
		{noKey(), "", 0x8b5a0baa49fbc58d, 0x667dd5401e6fd800, [4][2]int{{1, 1}, {1, 1}, {33, 227}, {64483, 55297}}},
		{noKey(), "a", 0xdbd742182ef49361, 0x1db0e9da0bfc8dfc, [4][2]int{{1, 1}, {2, 1}, {202, 233}, {51887, 36349}}},
		{noKey(), "web", 0xed0e9416793091da, 0xe90c41c9c15e9b84, [4][2]int{{0, 1}, {2, 1}, {38, 31}, {49075, 39813}}},
		{noKey(), "backend-1", 0x190b362d9ae7210b, 0x8610e841d7f4f2be, [4][2]int{{1, 1}, {0, 1}, {226, 59}, {41799, 62143}}},
		{noKey(), "\x00", 0x3a6d9523170345d0, 0x62c3506f27376c25, [4][2]int{{0, 1}, {0, 2}, {84, 174}, {35203, 27686}}},
		{noKey(), "\x01", 0xe208bb7d5742213d, 0x53a0d553e7902b55, [4][2]int{{1, 1}, {1, 2}, {220, 178}, {41841, 11094}}},
		{noKey(), "a\x00", 0x339f06183176e948, 0xed3d4bb9ec3fd489, [4][2]int{{0, 1}, {1, 2}, {115, 212}, {35403, 54410}}},
		{noKey(), "a\x01", 0xd0916175008ae2f7, 0x12c0e6d400328246, [4][2]int{{1, 1}, {2, 1}, {167, 183}, {29521, 33351}}},
		{noKey(), "\xff\xfe\x80", 0xebccaa1c4abbc4d1, 0xcaa41728a674628f, [4][2]int{{1, 1}, {1, 2}, {149, 108}, {14438, 25232}}},
		{noKey(), "twenty-four bytes long..", 0x764bf281ad2a2b18, 0xae7f9ed6c031c929, [4][2]int{{0, 1}, {0, 2}, {92, 112}, {64037, 51498}}},
		{fullKey(), "", 0x63e8f5ae8073d111, 0x69275991c4fbe871, [4][2]int{{1, 1}, {1, 2}, {118, 226}, {57956, 59506}}},
		{fullKey(), "a", 0x32ccb6adeb5ebde1, 0xc61d7707fccb4297, [4][2]int{{1, 1}, {2, 2}, {181, 56}, {22116, 17048}}},
		{fullKey(), "web", 0x4785f7189f8ff22c, 0xe6740775159d184c, [4][2]int{{0, 1}, {1, 1}, {218, 99}, {559, 6221}}},
		{fullKey(), "backend-1", 0x53a8d93b5f1de46f, 0x8b84def7d3918c1d, [4][2]int{{1, 1}, {0, 2}, {30, 246}, {2788, 35870}}},
		{fullKey(), "\x00", 0x3af24a6ce0cf9afc, 0x8f235dcaa2090d4b, [4][2]int{{0, 1}, {2, 2}, {3, 238}, {51624, 3404}}},
		{fullKey(), "\x01", 0xc4532aca3d628b0d, 0x8c2a6e9763e57069, [4][2]int{{1, 1}, {0, 2}, {167, 54}, {46115, 28778}}},
		{fullKey(), "a\x00", 0x9a88bbec4b9cd274, 0xc5c2dbdfb043edc6, [4][2]int{{0, 1}, {1, 1}, {194, 157}, {43068, 60871}}},
		{fullKey(), "a\x01", 0xff0bd8a98df6c4a5, 0x459332606e15896b, [4][2]int{{1, 1}, {1, 2}, {31, 178}, {4173, 35180}}},
		{fullKey(), "\xff\xfe\x80", 0x9ce6d6be6402941c, 0xadf7703c602b36b0, [4][2]int{{0, 1}, {0, 1}, {4, 167}, {27122, 14001}}},
		{fullKey(), "twenty-four bytes long..", 0x1ab899f52da38b19, 0x64fef8385800866e, [4][2]int{{1, 1}, {2, 1}, {67, 171}, {56499, 34415}}},
	} {
		if a, b := sip.Of(x.key, []byte(x.name+"\x00")), sip.Of(x.key, []byte(x.name+"\x01")); a != x.offset || b != x.skip {
			t.Errorf("% x, %q: the hashes are %x and %x", x.key, x.name, a, b)
		}
		for i, size := range []int{2, 3, 251, 65537} {
			if a, b := perm.Of(x.key, x.name, size); [2]int{a, b} != x.want[i] {
				t.Errorf("% x, %q, %d: %d and %d, not %d", x.key, x.name, size, a, b, x.want[i])
			}
		}
	}
}

// checkOf holds the offset and the skip against the words.
func checkOf(t *testing.T, key [16]byte, name string, size int) (int, int) {
	t.Helper()
	offset, skip := perm.Of(key, name, size)
	if x, y := told(key, name, size); offset != x || skip != y {
		t.Fatalf("% x, %q, %d: %d and %d, not %d and %d", key, short(name), size, offset, skip, x, y)
	}
	if offset < 0 || offset >= size || skip < 1 || skip >= size {
		t.Fatalf("% x, %q, %d: %d and %d", key, short(name), size, offset, skip)
	}
	return offset, skip
}

// P16.2: each name by each key for each size, against the words.
func TestOf(t *testing.T) {
	for _, key := range keys() {
		for _, name := range names() {
			for _, size := range sizes() {
				checkOf(t, key, name, size)
			}
		}
	}
}

// P16.2: of 2 the skip is 1, as its rest is by 1; of 3 it is 1 or 2; offsets are all that there may be.
func TestLeastSizes(t *testing.T) {
	for size, want := range map[int]int{2: 2, 3: 6, 5: 20, 7: 42} {
		seen := map[[2]int]int{}
		c := chance(size)
		for range 2000 {
			offset, skip := checkOf(t, otherKey(), string(c.bytes(c.below(12))), size)
			seen[[2]int{offset, skip}]++
		}
		if len(seen) != want {
			t.Error(size, seen)
		}
	}
}

// P16.2: for the greatest size the greatest offsets and skips are met, as well as the least.
func TestReach(t *testing.T) {
	c := chance(65537)
	low, high := [2]int{65537, 65537}, [2]int{}
	for range 300000 {
		offset, skip := perm.Of(upKey(), string(c.bytes(8)), 65537)
		low[0], low[1] = min(low[0], offset), min(low[1], skip)
		high[0], high[1] = max(high[0], offset), max(high[1], skip)
	}
	if low[0] > 5 || low[1] > 6 || low[1] < 1 || high[0] < 65531 || high[1] < 65531 || high[0] > 65536 || high[1] > 65536 {
		t.Error(low, high)
	}
}

// P16.2: each bit of the key counts.
func TestEachBitOfKey(t *testing.T) {
	for _, name := range []string{"", "web", "\x00", "twenty-four bytes long.."} {
		for _, key := range keys() {
			a, b := checkOf(t, key, name, 65537)
			seen := map[[2]int]int{{a, b}: -1}
			for i := range 128 {
				turned := key
				turned[i/8] ^= 1 << (i % 8)
				a, b := checkOf(t, turned, name, 65537)
				if j, is := seen[[2]int{a, b}]; is {
					t.Fatalf("% x, %q, bits %d and %d: %d and %d", key, name, i, j, a, b)
				}
				seen[[2]int{a, b}] = i
			}
		}
	}
}

// P16.2: no two of the names have the same offset and skip for the greatest size.
func TestNamesDiffer(t *testing.T) {
	for _, key := range keys() {
		seen := map[[2]int]string{}
		for _, name := range names() {
			a, b := checkOf(t, key, name, 65537)
			if other, is := seen[[2]int{a, b}]; is {
				t.Errorf("% x, %q and %q: %d and %d", key, short(name), short(other), a, b)
			}
			seen[[2]int{a, b}] = name
		}
	}
}

// P16.2: each byte of a name counts, and how many there are.
func TestEachByteOfName(t *testing.T) {
	for n := range 60 {
		name := bytes.Repeat([]byte{'w'}, n)
		a, b := checkOf(t, upKey(), string(name), 65537)
		seen := map[[2]int]int{{a, b}: -1}
		for i := range name {
			name[i] ^= 1
			a, b := checkOf(t, upKey(), string(name), 65537)
			name[i] ^= 1
			if j, is := seen[[2]int{a, b}]; is {
				t.Fatalf("%d bytes, %d and %d: %d and %d", n, i, j, a, b)
			}
			seen[[2]int{a, b}] = i
		}
	}
}

// P16.2, P1: any name by any key for any size, against the words.
func TestAnyOf(t *testing.T) {
	c, l := chance(162), toldPrimes(65538)
	for range 30000 {
		checkOf(t, [16]byte(c.bytes(16)), string(c.bytes(c.below(30))), l[c.below(len(l))])
	}
}

// P16.2: what is answered hangs on nothing that was asked ahead.
func TestOfAgain(t *testing.T) {
	type asked struct {
		key          [16]byte
		name         string
		size         int
		offset, skip int
	}
	c, l := chance(163), toldPrimes(65538)
	var all []asked
	for range 300 {
		x := asked{key: [16]byte(c.bytes(16)), name: string(c.bytes(c.below(20))), size: l[c.below(len(l))]}
		x.offset, x.skip = perm.Of(x.key, x.name, x.size)
		all = append(all, x)
	}
	for i := range all {
		x := all[len(all)-1-i]
		if a, b := perm.Of(x.key, x.name, x.size); a != x.offset || b != x.skip {
			t.Fatalf("% x, %q, %d: %d and %d, then %d and %d", x.key, x.name, x.size, x.offset, x.skip, a, b)
		}
	}
}
