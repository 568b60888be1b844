package pool_test

import (
	"strings"
	"testing"

	"wayleave/api"
	"wayleave/pool"
)

// P18.1: names that are known to be such, and others.
func TestNames(t *testing.T) {
	for _, s := range []string{"a", "z", "0", "9", "-", ".", "web-1", "10.0.0.1", "a.b-c.9", "--", "..", "-.", strings.Repeat("a", 24), strings.Repeat("-", 24)} {
		if !pool.Name(s) {
			t.Errorf("%q is a name", s)
		}
	}
	for _, s := range []string{"", " ", "A", "Z", "a b", "a_b", "web/1", "web:1", "a,b", "a\n", "\na", "a\x00", "\x00", "\u00e9", "\xe9", "\xff\xfe", "a\x80", "\uff41", "\u2024", strings.Repeat("a", 25), strings.Repeat("a", 1000), strings.Repeat("A", 24)} {
		if pool.Name(s) {
			t.Errorf("%q is no name", s)
		}
	}
}

// P18.1: each length, of bytes that may be.
func TestNameLengths(t *testing.T) {
	all := strings.Repeat("az09-.", 60)
	for n := range len(all) {
		if ok := pool.Name(all[:n]); ok != (n >= 1 && n <= 24) {
			t.Error(n, ok)
		}
	}
}

// P18.1: each byte, by itself, and at each place of a name.
func TestNameBytes(t *testing.T) {
	count := 0
	for c := range 256 {
		one := string([]byte{byte(c)})
		want := c >= 97 && c <= 122 || c >= 48 && c <= 57 || c == 45 || c == 46
		if want {
			count++
		}
		for size := 1; size <= 24; size++ {
			for at := range size {
				s := strings.Repeat("k", at) + one + strings.Repeat("k", size-at-1)
				if pool.Name(s) != want {
					t.Fatalf("%q: %v", s, !want)
				}
			}
		}
	}
	if count != 38 {
		t.Error(count)
	}
}

// P18.1: any two bytes, and texts whose runes, but not whose bytes, may be.
func TestNameByWords(t *testing.T) {
	for a := range 256 {
		for b := range 256 {
			if s := string([]byte{byte(a), byte(b)}); pool.Name(s) != toldName(s) {
				t.Fatalf("%q: %v", s, pool.Name(s))
			}
		}
	}
	for r := rune(0x80); r < 0x3000; r++ {
		if pool.Name(string(r)) || pool.Name("a"+string(r)) {
			t.Fatalf("%q", string(r))
		}
	}
}

// P18.1: a right pool's backends have right names, each name that is one may be a backend's, and no other.
func TestNamesOfBackends(t *testing.T) {
	for _, s := range []string{"", "a", "A", "a_", ".", "-", "~", "`", "{", "/", ":", "@", "[", ",", "\xff", strings.Repeat("x", 24), strings.Repeat("x", 25)} {
		if p := some(0, s); pool.Right(p) != pool.Name(s) {
			t.Errorf("%q: %v", s, pool.Right(p))
		}
		want := api.OK
		if !pool.Name(s) {
			want = api.ErrArg
		}
		if _, e := checkDo(t, api.Pool{}, api.Op{Kind: api.OpAdd, Backend: backend(s)}); e != want {
			t.Errorf("%q: %d", s, e)
		}
	}
}
