package maglev_test

import (
	"slices"
	"strings"
	"testing"

	"wayleave/api"
	"wayleave/maglev"
)

// P17.1: tables that are written out, of known hashes.
func TestKnown(t *testing.T) {
	for i, x := range []struct {
		key   [16]byte
		size  int
		l     []api.Share
		names []string
		slots []int
	}{
		{upKey(), 2, []api.Share{share("a", 1)}, []string{"a"}, []int{0, 0}},
		{upKey(), 2, []api.Share{share("a", 1), share("b", 1)}, []string{"a", "b"}, []int{1, 0}},
		{upKey(), 2, []api.Share{share("c", 1), share("b", 1), share("a", 1)}, []string{"a", "b", "c"}, []int{1, 0}},
		{noKey(), 3, []api.Share{share("a", 2), share("b", 1)}, []string{"a", "b"}, []int{0, 1, 0}},
		{fullKey(), 3, []api.Share{share("b", 1024), share("a", 1)}, []string{"a", "b"}, []int{1, 1, 1}},
		{upKey(), 7, []api.Share{share("one", 1), share("two", 1)}, []string{"one", "two"}, []int{0, 1, 1, 0, 0, 0, 1}},
		{upKey(), 13, []api.Share{share("web", 1024), share("top", 512), share("low", 0)}, []string{"top", "web"}, []int{1, 0, 1, 1, 0, 1, 1, 1, 0, 1, 1, 1, 0}},
		{noKey(), 13, []api.Share{share("web", 1024), share("top", 1024), share("low", 1024)}, []string{"low", "top", "web"}, []int{1, 2, 2, 1, 1, 0, 2, 0, 0, 0, 2, 1, 0}},
		{fullKey(), 13, []api.Share{share("", 5), share("\xff\xfe\x80", 3), share("\x00", 7)}, []string{"", "\x00", "\xff\xfe\x80"}, []int{0, 0, 1, 1, 0, 2, 1, 0, 1, 2, 0, 1, 1}},
		{
			upKey(), 31, []api.Share{share("backend-1", 1000), share("backend-2", 300), share("backend-3", 700), share("backend", 1)},
			[]string{"backend", "backend-1", "backend-2", "backend-3"},
			[]int{1, 1, 3, 1, 1, 3, 2, 3, 1, 1, 3, 2, 3, 1, 1, 1, 3, 1, 1, 3, 1, 3, 1, 2, 2, 3, 3, 3, 1, 1, 1},
		},
		{
			noKey(), 31, []api.Share{share("a", full), share("ab", 1), share("abc", full/2)},
			[]string{"a", "ab", "abc"},
			[]int{2, 2, 0, 0, 0, 2, 0, 0, 0, 0, 2, 0, 0, 2, 2, 0, 0, 0, 0, 0, 0, 2, 2, 2, 0, 0, 0, 0, 2, 0, 0},
		},
		{
			fullKey(), 31, []api.Share{share("a", 3), share("b", 2), share("c", 3), share("d", 1)},
			[]string{"a", "b", "c", "d"},
			[]int{0, 0, 1, 2, 2, 2, 2, 0, 2, 2, 1, 2, 2, 0, 0, 2, 2, 0, 1, 0, 0, 3, 1, 1, 0, 0, 0, 3, 3, 1, 1},
		},
	} {
		tab, e := maglev.Build(x.key, x.size, x.l)
		if e != api.OK || !slices.Equal(tab.Names, x.names) || !slices.Equal(tab.Slots, x.slots) {
			t.Errorf("%d: error %d, %q, %d", i, e, tab.Names, tab.Slots)
		}
	}
}

// P17.1: greater tables, of which a known number that hangs on each slot is held.
func TestKnownGreat(t *testing.T) {
	l := row(300, func(i int) int { return 1 + i*i*37%full })
	for i := range l {
		l[i].Name = "backend-" + l[i].Name[1:]
	}
	for _, x := range []struct {
		key  [16]byte
		size int
		want uint64
	}{{upKey(), 65537, 0xf85155bfd2d78d0c}, {noKey(), 65521, 0x9759fc48382d636d}, {fullKey(), 1021, 0x5f4fcf1455680437}} {
		n := uint64(0)
		for _, at := range build(t, x.key, x.size, l).Slots {
			n = n*31 + uint64(at) + 1
		}
		if n != x.want {
			t.Errorf("%d: %x, not %x", x.size, n, x.want)
		}
	}
}

// P17.1: shares of all kinds by each key for each size, against the words.
func TestBuild(t *testing.T) {
	for _, key := range keys() {
		for _, size := range sizes() {
			for _, l := range lists() {
				check(t, key, size, l)
			}
		}
	}
}

// P17.1: the greatest sizes.
func TestGreatSizes(t *testing.T) {
	for _, size := range []int{65519, 65521, 65537} {
		for _, l := range lists() {
			check(t, upKey(), size, l)
		}
	}
}

// P17.1: each size to some hundreds.
func TestEachSize(t *testing.T) {
	l := []api.Share{share("x", 7), share("w", 5), share("v", 3), share("u", 1)}
	n := 0
	for size := range 700 {
		// A prime is what no lesser number from 2 on divides.
		prime := size > 1
		for by := 2; by < size; by++ {
			prime = prime && size%by != 0
		}
		if !prime {
			refuse(t, upKey(), size, l)
			refuse(t, upKey(), -size, l)
			continue
		}
		n++
		check(t, upKey(), size, l)
	}
	if n != 125 {
		t.Error(n)
	}
}

// P17.1: MaxBackends shares, of all kinds, for the least sizes and the greatest.
func TestMostShares(t *testing.T) {
	for _, quanta := range []func(int) int{
		always(1), always(full), always(0),
		func(i int) int { return i },
		func(i int) int { return i * 1001 % (full + 1) },
		func(i int) int { return i % 2 * full },
		func(i int) int { return i / 1023 * 5 },
		func(i int) int { return 1 + i/1023*(full-1) },
	} {
		for _, size := range []int{2, 3, 1021, 1031, 65537} {
			check(t, noKey(), size, row(api.MaxBackends, quanta))
		}
	}
}

// P17.1: what may not be in a list of shares is refused wherever it stands, and whatever quanta the others have.
func TestWrongShares(t *testing.T) {
	for _, n := range []int{1, 2, 3, 40, 1024} {
		for _, with := range []int{0, 1, full} {
			for _, at := range []int{0, n / 2, n - 1} {
				for _, quanta := range []int{-1, -2, -1024, -full, -1 << 63, full + 1, full + 2, 2 * full, 1 << 31, 1 << 32, 1<<32 + 1, 1<<63 - 1} {
					l := row(n, always(with))
					check(t, upKey(), 7, l)
					l[at].Quanta = quanta
					refuse(t, upKey(), 7, l)
				}
			}
		}
	}
}

// P17.1: the least and the greatest quanta may be, wherever they stand.
func TestQuantaEdges(t *testing.T) {
	for at := range 5 {
		for _, quanta := range []int{0, 1, 2, 1023, 1024, 1025, full - 1, full} {
			for _, others := range []int{0, 1, 1024, full - 1, full} {
				l := row(5, always(others))
				l[at].Quanta = quanta
				check(t, upKey(), 101, l)
			}
		}
	}
}

// P17.1: as many shares as may be, and one more.
func TestHowMany(t *testing.T) {
	for _, quanta := range []int{0, 1, 1024, full} {
		for _, n := range []int{0, 1, 1023, 1024} {
			check(t, upKey(), 13, row(n, always(quanta)))
		}
		for _, n := range []int{1025, 1026, 2048, 70000} {
			refuse(t, upKey(), 13, row(n, always(quanta)))
		}
	}
	// One more counts, even if it has no quanta, or alone has some.
	l := row(1025, always(1))
	l[1024].Quanta = 0
	refuse(t, upKey(), 13, l)
	check(t, upKey(), 13, l[:1024])
	l = row(1025, always(0))
	l[3].Quanta = 9
	refuse(t, upKey(), 13, l)
	check(t, upKey(), 13, l[1:])
}

// P17.1: two shares of one name, at each two places, with quanta and without.
func TestTwice(t *testing.T) {
	for _, n := range []int{2, 3, 9} {
		for i := range n {
			for j := range i {
				for _, quanta := range [][2]int{{1, 1}, {5, 5}, {0, 5}, {5, 0}, {0, 0}, {1, full}} {
					l := row(n, always(5))
					l[i].Quanta, l[j].Quanta = quanta[0], quanta[1]
					check(t, upKey(), 13, l)
					l[i].Name = l[j].Name
					refuse(t, upKey(), 13, l)
				}
			}
		}
	}
}

// P17.1: names of all kinds that are there twice, and such that are nearly alike, which aren't.
func TestTwiceOfAllKinds(t *testing.T) {
	for _, name := range []string{"", "a", "\x00", "\xff", "\xff\xfe\x80", "web-1", strings.Repeat("w", 5000)} {
		refuse(t, upKey(), 13, []api.Share{share(name, 1), share(name, 1)})
		refuse(t, upKey(), 13, []api.Share{share(name, 1), share("m", 3), share("\x01", 0), share(name, 0)})
		for _, other := range []string{name + "a", name + "\x00", name + " ", "\x00" + name, name + name + "b"} {
			check(t, upKey(), 13, []api.Share{share(name, 1), share(other, 1)})
			check(t, upKey(), 13, []api.Share{share(other, 2), share(name, 1)})
		}
	}
	check(t, upKey(), 13, []api.Share{share("A", 1), share("a", 1), share("\xc3\xa9", 1), share("e\xcc\x81", 1)})
	l := row(1024, always(1))
	l[1023].Name = l[0].Name
	refuse(t, upKey(), 13, l)
}

// P17.1: numbers that are no sizes, with shares and without.
func TestNoSizes(t *testing.T) {
	for _, size := range []int{
		0, 1, -1, -2, -3, -7, -13, -65537, -1 << 63, 4, 6, 8, 9, 10, 15, 21, 25, 49, 121, 143, 169, 1001, 1024, 65025, 65533, 65535, 65536, 256 * 256, 251 * 257, 181 * 361,
		65538, 65539, 65543, 65551, 131071, 131074, 1<<31 - 1, 1 << 31, 1 << 32, 1<<32 + 2, 1<<32 + 7, 1<<61 - 1, 1<<63 - 25, 1<<63 - 1,
	} {
		for _, l := range [][]api.Share{nil, {share("a", 0)}, {share("a", 1)}, {share("b", 3), share("a", 1)}, {share("a", 1), share("a", 1)}, row(1025, always(1))} {
			refuse(t, upKey(), size, l)
		}
	}
}

// P17.1: without quanta there are neither names nor slots, and no error.
func TestNoQuanta(t *testing.T) {
	for _, size := range []int{2, 3, 7, 251, 65537} {
		for _, l := range [][]api.Share{nil, {}, {share("a", 0)}, {share("", 0)}, row(2, always(0)), row(1024, always(0))} {
			tab, e := maglev.Build(upKey(), size, l)
			if e != api.OK || len(tab.Names) != 0 || len(tab.Slots) != 0 {
				t.Errorf("%d, %s: error %d, %d names, %d slots", size, short(l), e, len(tab.Names), len(tab.Slots))
			}
		}
	}
}

// P17.1: any shares by any key, some of which may not be, for any size.
func TestAnyBuild(t *testing.T) {
	c := chance(171)
	for range 1500 {
		l, size := c.shares(30), sizes()[c.below(len(sizes()))]
		check(t, c.key(), size, l)
		if len(l) == 0 {
			continue
		}
		at := c.below(len(l))
		switch c.below(3) {
		case 0:
			l = append(l, share(l[at].Name, c.below(3)))
		case 1:
			l[at].Quanta = -1 - c.below(1<<40)
		case 2:
			l[at].Quanta = full + 1 + c.below(1<<40)
		}
		refuse(t, c.key(), size, l)
	}
}

// P17.1: each bit of the key counts.
func TestEachBitOfTheKey(t *testing.T) {
	l := row(9, always(1))
	was := build(t, upKey(), 251, l)
	for bit := range 128 {
		key := upKey()
		key[bit/8] ^= 1 << (bit % 8)
		if same(check(t, key, 251, l), was) {
			t.Error(bit)
		}
	}
}
