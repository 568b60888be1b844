package maglev_test

import (
	"slices"
	"testing"

	"wayleave/api"
	"wayleave/maglev"
)

// checkFollows holds what follows: which names there are, that each slot has one, and how many slots each name has.
func checkFollows(t *testing.T, key [16]byte, size int, l []api.Share) {
	t.Helper()
	tab, quanta, r := build(t, key, size, l), toldQuanta(l), told(key, size, l).rounds
	if len(tab.Names) != len(quanta) || !slices.IsSorted(tab.Names) {
		t.Fatalf("%d, %s: the names %q", size, short(l), tab.Names)
	}
	most := 1
	for _, n := range tab.Names {
		if quanta[n] == 0 {
			t.Fatalf("%d, %s: the name %q", size, short(l), n)
		}
		most = max(most, quanta[n])
	}
	if len(quanta) > 0 && len(tab.Slots) != size {
		t.Fatalf("%d, %s: %d slots", size, short(l), len(tab.Slots))
	}
	for _, at := range tab.Slots {
		if at < 0 || at >= len(tab.Names) {
			t.Fatalf("%d, %s: a slot of %d", size, short(l), at)
		}
	}
	for i, n := range maglev.Count(tab) {
		if q := quanta[tab.Names[i]]; n < r*q/most || n > (r+1)*q/most {
			t.Fatalf("%d, %s: %q has %d slots behind %d rounds", size, short(l), tab.Names[i], n, r)
		}
	}
}

// P17.3: shares of all kinds.
func TestFollows(t *testing.T) {
	for _, size := range append(sizes(), 65537) {
		for _, l := range lists() {
			checkFollows(t, upKey(), size, l)
		}
	}
}

// P17.3: any shares.
func TestAnyFollows(t *testing.T) {
	c := chance(173)
	for range 1000 {
		checkFollows(t, c.key(), sizes()[c.below(len(sizes()))], c.shares(40))
	}
}

// P17.3: the order of the shares doesn't matter.
func TestOrders(t *testing.T) {
	c := chance(174)
	for _, l := range lists() {
		for _, size := range []int{2, 7, 251, 4099} {
			was := build(t, upKey(), size, l)
			back := slices.Clone(l)
			slices.Reverse(back)
			for _, other := range [][]api.Share{back, c.mixed(l), c.mixed(l), c.mixed(l)} {
				if !same(build(t, upKey(), size, other), was) {
					t.Fatal(size, short(l))
				}
			}
		}
	}
}

// P17.3: each order of few names.
func TestEachOrder(t *testing.T) {
	l := []api.Share{share("ab", 3), share("a", 5), share("", 2), share("b", 0), share("\xff", 4)}
	was, n := check(t, upKey(), 31, l), 0
	var orders func(at int)
	orders = func(at int) {
		if at == len(l) {
			n++
			if !same(build(t, upKey(), 31, l), was) {
				t.Fatal(short(l))
			}
			return
		}
		for i := at; i < len(l); i++ {
			l[at], l[i] = l[i], l[at]
			orders(at + 1)
			l[at], l[i] = l[i], l[at]
		}
	}
	if orders(0); n != 120 {
		t.Error(n)
	}
}

// P17.3: quanta that are all so many times as many come to the same, twice above all.
func TestTimes(t *testing.T) {
	for _, l := range lists() {
		for _, by := range []int{2, 3, 4, 7, 1000, 1024} {
			times, fits := slices.Clone(l), true
			for i := range times {
				times[i].Quanta *= by
				fits = fits && times[i].Quanta <= full
			}
			for _, size := range []int{2, 7, 251, 4099} {
				if fits && !same(build(t, upKey(), size, times), build(t, upKey(), size, l)) {
					t.Fatal(size, by, short(l))
				}
			}
		}
	}
	half, whole := row(50, func(i int) int { return i * 10240 }), row(50, func(i int) int { return i * 20480 })
	half[7].Quanta, whole[7].Quanta = full/2, full
	if !same(build(t, upKey(), 65537, half), build(t, upKey(), 65537, whole)) {
		t.Error("twice as many, to the greatest")
	}
}

// P17.3: names without quanta, ahead of the others, behind and between them, don't matter.
func TestWithout(t *testing.T) {
	none := []api.Share{share("\x02", 0), share("aa", 0), share("b00", 0), share("web-11", 0), share("\xfe", 0), share("zzz", 0)}
	c := chance(175)
	for _, l := range lists() {
		for _, size := range []int{2, 7, 251, 4099} {
			was := build(t, upKey(), size, l)
			for _, other := range [][]api.Share{slices.Concat(l, none), slices.Concat(none, l), c.mixed(slices.Concat(none, l)), c.mixed(slices.Concat(none[:3], l))} {
				if !same(build(t, upKey(), size, other), was) {
					t.Fatal(size, short(l))
				}
			}
		}
	}
}

// P17.3: all three at once, of any shares.
func TestAnyAlike(t *testing.T) {
	c := chance(176)
	for range 300 {
		l, key, size := c.shares(20), c.key(), sizes()[c.below(len(sizes()))]
		for i := range l {
			l[i].Quanta /= 2
		}
		other := append(c.mixed(l), share("none of them", 0), share("nor this", 0))
		for i := range other {
			other[i].Quanta *= 2
		}
		if !same(build(t, key, size, c.mixed(other)), build(t, key, size, l)) {
			t.Fatal(size, short(l))
		}
	}
}

// P17.3: what a table is hangs on its own arguments alone, whatever was built ahead of it.
func TestAgain(t *testing.T) {
	var was []api.Table
	for _, l := range lists() {
		was = append(was, build(t, upKey(), 251, l))
	}
	for i, l := range lists() {
		build(t, fullKey(), 13, l)
		maglev.Build(upKey(), 12, l)
		if !same(build(t, upKey(), 251, l), was[i]) {
			t.Error(i)
		}
	}
}
