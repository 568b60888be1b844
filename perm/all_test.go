package perm_test

import (
	"slices"
	"testing"

	"wayleave/perm"
)

// P16.2: choices that are written out, of known hashes.
func TestKnownAll(t *testing.T) {
	for _, x := range []struct {
		name string
		size int
		want []int
	}{
		{"web", 13, []int{0, 9, 5, 1, 10, 6, 2, 11, 7, 3, 12, 8, 4}},
		{"", 7, []int{3, 6, 2, 5, 1, 4, 0}},
		{"a", 2, []int{1, 0}},
		{"b", 2, []int{0, 1}},
		{"a", 3, []int{1, 2, 0}},
	} {
		if l := perm.All(upKey(), x.name, x.size); !slices.Equal(l, x.want) {
			t.Errorf("%q, %d: %d", x.name, x.size, l)
		}
	}
}

// checkAll holds all choices against Choice, and has each place just once among them.
func checkAll(t *testing.T, key [16]byte, name string, size int) []int {
	t.Helper()
	l := perm.All(key, name, size)
	if len(l) != size {
		t.Fatalf("% x, %q, %d: %d choices", key, short(name), size, len(l))
	}
	offset, skip := told(key, name, size)
	seen := make([]int, size)
	for i, n := range l {
		if n != perm.Choice(offset, skip, size, i) || n != toldChoice(offset, skip, size, i) {
			t.Fatalf("% x, %q, %d: %d is the choice %d", key, short(name), size, n, i)
		}
		if seen[n]++; seen[n] > 1 {
			t.Fatalf("% x, %q, %d: %d is there twice", key, short(name), size, n)
		}
	}
	return l
}

// P16.2, P16.3: each name by each key, for the least and ordinary sizes.
func TestAll(t *testing.T) {
	for _, key := range keys() {
		for _, name := range names() {
			for _, size := range []int{2, 3, 5, 7, 251} {
				checkAll(t, key, name, size)
			}
		}
	}
}

// P16.2, P16.3: the greatest sizes, and those near to powers of 2.
func TestGreatSizes(t *testing.T) {
	for _, name := range []string{"", "web", "web\x00", "web\x01", "\xff\xfe\x80"} {
		for _, size := range []int{4093, 4099, 32749, 32771, 65519, 65521, 65537} {
			checkAll(t, otherKey(), name, size)
		}
	}
}

// P16.2, P16.3: each size to some hundreds.
func TestEachSize(t *testing.T) {
	for _, size := range toldPrimes(800) {
		for _, name := range []string{"a", "b", ""} {
			checkAll(t, upKey(), name, size)
		}
	}
}

// P16.2, P16.3, P1: any name by any key, for any size.
func TestAnyAll(t *testing.T) {
	c, l := chance(165), toldPrimes(2000)
	for range 600 {
		checkAll(t, [16]byte(c.bytes(16)), string(c.bytes(c.below(30))), l[c.below(len(l))])
	}
}

// P16.4: two answers share no memory, the room behind their length included, and what is written into one shows in no other.
func TestNewMemory(t *testing.T) {
	for _, size := range []int{2, 3, 7, 251, 65537} {
		one, other := perm.All(upKey(), "web", size), perm.All(upKey(), "web", size)
		was := slices.Clone(one)
		for i := range one[:cap(one)] {
			one[:cap(one)][i] = -1 - i
		}
		if !slices.Equal(other, was) {
			t.Fatalf("%d: the other answer became %d", size, other[:2])
		}
		for i := range other[:cap(other)] {
			other[:cap(other)][i] = -1
		}
		if one[0] != -1 || one[size-1] != -size {
			t.Fatalf("%d: the first answer became %d and %d", size, one[0], one[size-1])
		}
		if l := checkAll(t, upKey(), "web", size); !slices.Equal(l, was) {
			t.Fatalf("%d: the next answer is %d", size, l[:2])
		}
		if a, b := perm.Of(upKey(), "web", size); a != was[0] || (a+b)%size != was[1] {
			t.Fatalf("%d: then the offset and skip are %d and %d", size, a, b)
		}
	}
}

// P16.4: an answer stays while others are asked for.
func TestAnswersStay(t *testing.T) {
	var all, was [][]int
	for _, name := range names() {
		l := perm.All(otherKey(), name, 251)
		all, was = append(all, l), append(was, slices.Clone(l))
	}
	for i, l := range all {
		if !slices.Equal(l, was[i]) {
			t.Errorf("%q: %d", short(names()[i]), l[:3])
		}
	}
}

// P16.2: names whose bytes are in memory that is used again.
func TestNamesNotKept(t *testing.T) {
	b := []byte("web")
	one := perm.All(upKey(), string(b), 251)
	copy(b, "top")
	other := perm.All(upKey(), string(b), 251)
	if !slices.Equal(one, perm.All(upKey(), "web", 251)) || !slices.Equal(other, perm.All(upKey(), "top", 251)) || slices.Equal(one, other) {
		t.Error(one[:3], other[:3])
	}
}
