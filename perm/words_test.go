package perm_test

import (
	"slices"
	"strings"

	"wayleave/sip"
)

// Keys: of bytes 0, of bytes 255, and such whose bytes are unlike.
func noKey() [16]byte   { return [16]byte{} }
func fullKey() [16]byte { return [16]byte(slices.Repeat([]byte{255}, 16)) }
func upKey() [16]byte   { return [16]byte{0, 1, 2, 3, 4, 5, 6, 7, 8, 9, 10, 11, 12, 13, 14, 15} }
func otherKey() [16]byte {
	return [16]byte{0xf0, 0xe1, 0xd2, 0xc3, 0xb4, 0xa5, 0x96, 0x87, 0x78, 0x69, 0x5a, 0x4b, 0x3c, 0x2d, 0x1e, 0x0f}
}

func keys() [][16]byte { return [][16]byte{noKey(), fullKey(), upKey(), otherKey()} }

// names are plain ones, such without bytes, with bytes 0 and 1 at each place, that are no text, and long ones.
func names() []string {
	return []string{
		"", "a", "b", "web", "backend-1", "10.0.0.1:8080",
		"\x00", "\x01", "\x00\x00", "\x00\x01", "\x01\x00", "\x01\x01",
		"a\x00", "a\x01", "a\x00\x00", "a\x00\x01", "a\x01\x00", "a\x01\x01", "\x00a", "\x01a", "a\x00b", "a\x01b", "web\x00", "web\x01",
		"\xff", "\x80", "\xff\xfe\x80", "a\xc3", "\xc3\xa9t\xc3\xa9", "\xef\xbf\xbd", "0", "1", " ", "web ",
		"seven..", "eight...", "nine.....", "fifteen bytes..", "sixteen bytes...", "twenty-four bytes long..",
		strings.Repeat("w", 253), strings.Repeat("w", 254), strings.Repeat("w", 255), strings.Repeat("w", 256),
		strings.Repeat("long", 5000), strings.Repeat("\x00", 300), strings.Repeat("\x01", 300),
	}
}

// sizes are the least ones, ordinary ones, and the greatest ones.
func sizes() []int { return []int{2, 3, 5, 7, 11, 13, 251, 257, 1021, 4099, 65519, 65521, 65537} }

// chance are numbers that look like such by chance, but are the same each time.
type chance uint64

func (c *chance) next() uint64 {
	*c = *c*6364136223846793005 + 1442695040888963407
	n := uint64(*c)
	return (n ^ n>>33) * 0xff51afd7ed558ccd
}

func (c *chance) bytes(n int) []byte {
	b := make([]byte, n)
	for i := range b {
		b[i] = byte(c.next() >> 20)
	}
	return b
}

// below is a number from 0 to n - 1.
func (c *chance) below(n int) int { return int(c.next() % uint64(n)) }

// sieve tells of each number below n whether it is a prime: what is a multiple of a lesser prime is none.
func sieve(n int) []bool {
	l := slices.Repeat([]bool{true}, n)
	l[0], l[1] = false, false
	for p, is := range l {
		for m := 2 * p; is && m < n; m += p {
			l[m] = false
		}
	}
	return l
}

// toldPrimes are the primes below n, in order.
func toldPrimes(n int) []int {
	var l []int
	for p, is := range sieve(n) {
		if is {
			l = append(l, p)
		}
	}
	return l
}

// told is the offset and the skip by the chapter's words, of the hash that layer 15 tells.
func told(key [16]byte, name string, size int) (int, int) {
	x, y := sip.Of(key, []byte(name+"\x00")), sip.Of(key, []byte(name+"\x01"))
	return int(x - x/uint64(size)*uint64(size)), int(y-y/uint64(size-1)*uint64(size-1)) + 1
}

// short is the name, or the beginning of it where it is long.
func short(name string) string { return name[:min(len(name), 40)] }
