package maglev_test

import (
	"math"
	"slices"
	"testing"

	"wayleave/api"
	"wayleave/maglev"
)

// edges are hashes: the least and the greatest, and those about the number of slots, its multiples, and powers of 2.
func edges(slots uint64) []uint64 {
	l := []uint64{0, 1, 2, slots - 1, slots, slots + 1, 2*slots - 1, 2 * slots, 2*slots + 1, slots * slots, math.MaxUint64 - 1, math.MaxUint64, math.MaxUint64 / slots * slots, math.MaxUint64/slots*slots - 1}
	for _, n := range []uint64{1 << 31, 1 << 32, 1 << 33, 1 << 62, 1 << 63} {
		l = append(l, n-1, n, n+1)
	}
	return l
}

// toldPick is the name of the slot of the hash's rest.
func toldPick(tab api.Table, hash uint64) string {
	slots := uint64(len(tab.Slots))
	return tab.Names[tab.Slots[hash-hash/slots*slots]]
}

// P17.2: a pick that is written out, for each hash to some hundreds and at the edges.
func TestKnownPicks(t *testing.T) {
	tab := build(t, noKey(), 13, []api.Share{share("web", 1024), share("top", 1024), share("low", 1024)})
	want := []string{"top", "web", "web", "top", "top", "low", "web", "low", "low", "low", "web", "top", "low"}
	for h := range uint64(400) {
		if n, ok := maglev.Pick(tab, h); n != want[h%13] || !ok {
			t.Error(h, n, ok)
		}
	}
	// 2^64 is 3 by its rest by 13.
	for h, at := range map[uint64]int{math.MaxUint64: 2, math.MaxUint64 - 1: 1, math.MaxUint64 - 2: 0, math.MaxUint64 - 3: 12, 1 << 63: 8, 1<<63 - 1: 7} {
		if n, ok := maglev.Pick(tab, h); n != want[at] || !ok {
			t.Error(h, n, ok)
		}
	}
}

// P17.2: of tables of all kinds: each slot, and the hashes at the edges.
func TestPick(t *testing.T) {
	for _, size := range []int{2, 3, 7, 251, 65537} {
		for _, l := range lists() {
			tab := build(t, upKey(), size, l)
			for at, i := range tab.Slots {
				if n, ok := maglev.Pick(tab, uint64(at)); n != tab.Names[i] || !ok {
					t.Fatal(size, short(l), at, n, ok)
				}
			}
			for _, h := range edges(uint64(size)) {
				if n, ok := maglev.Pick(tab, h); n != toldPick(tab, h) || !ok {
					t.Fatal(size, short(l), h, n, ok)
				}
			}
		}
	}
}

// P17.2: a name without bytes is picked like any other one.
func TestPickNoBytes(t *testing.T) {
	tab := build(t, upKey(), 7, []api.Share{share("", 1)})
	for h := range uint64(20) {
		if n, ok := maglev.Pick(tab, h); n != "" || !ok {
			t.Error(h, n, ok)
		}
	}
}

// P17.2: any hash.
func TestAnyPick(t *testing.T) {
	c := chance(172)
	for range 300 {
		l := append(c.shares(9), share("some", 1+c.below(full)))
		tab := build(t, c.key(), sizes()[c.below(len(sizes()))], l)
		for range 30 {
			h := c.next() >> c.below(64)
			if n, ok := maglev.Pick(tab, h); n != toldPick(tab, h) || !ok {
				t.Fatal(short(l), h, n, ok)
			}
		}
	}
}

// P17.2: without slots there is neither a pick nor a number.
func TestNoSlots(t *testing.T) {
	one := build(t, upKey(), 7, nil)
	two := build(t, upKey(), 65537, row(3, always(0)))
	bad, _ := maglev.Build(upKey(), 8, row(3, always(1)))
	for i, tab := range []api.Table{one, two, bad, {}, {Names: []string{}, Slots: []int{}}} {
		for _, h := range edges(7) {
			if n, ok := maglev.Pick(tab, h); n != "" || ok {
				t.Error(i, h, n, ok)
			}
		}
		if l := maglev.Count(tab); len(l) != 0 {
			t.Error(i, l)
		}
	}
}

// P17.2: how many slots each name has, by counting what is picked.
func TestCount(t *testing.T) {
	for _, size := range []int{2, 3, 7, 31, 251, 65537} {
		for _, l := range lists() {
			tab := build(t, upKey(), size, l)
			picked := map[string]int{}
			for h := range uint64(size) {
				n, _ := maglev.Pick(tab, h)
				picked[n]++
			}
			count := maglev.Count(tab)
			if len(count) != len(tab.Names) {
				t.Fatal(size, short(l), len(count))
			}
			for i, n := range tab.Names {
				if count[i] != picked[n] {
					t.Fatal(size, short(l), n, count[i], picked[n])
				}
			}
		}
	}
}

// P17.1, P17.2: the chapter's examples, and counts that follow of the words alone.
func TestKnownCounts(t *testing.T) {
	for i, x := range []struct {
		size int
		l    []api.Share
		want []int
	}{
		{2, []api.Share{share("a", 9)}, []int{2}},
		{65537, []api.Share{share("a", 1)}, []int{65537}},
		{7, []api.Share{share("b", 5), share("a", 5)}, []int{4, 3}},
		{2, []api.Share{share("b", 5), share("a", 5)}, []int{1, 1}},
		{3, []api.Share{share("b", 5), share("a", 5)}, []int{2, 1}},
		// More names than slots: the first ones have one each.
		{2, row(5, always(9)), []int{1, 1, 0, 0, 0}},
		{3, row(5, always(9)), []int{1, 1, 1, 0, 0}},
		{5, row(7, always(9)), []int{1, 1, 1, 1, 1, 0, 0}},
		// The least credit that pays a slot: behind just so many rounds.
		{5, []api.Share{share("a", 4), share("b", 1)}, []int{4, 1}},
		{3, []api.Share{share("a", 4), share("b", 1)}, []int{3, 0}},
		{7, []api.Share{share("a", 4), share("b", 1)}, []int{6, 1}},
		{11, []api.Share{share("a", 1), share("b", 4)}, []int{2, 9}},
		// What is left of the credit counts on: of 2 by 3 a slot comes behind the rounds 2 and 3, 5 and 6.
		{3, []api.Share{share("a", 3), share("b", 2)}, []int{2, 1}},
		{5, []api.Share{share("a", 3), share("b", 2)}, []int{3, 2}},
		{7, []api.Share{share("a", 3), share("b", 2)}, []int{5, 2}},
		{11, []api.Share{share("a", 3), share("b", 2)}, []int{7, 4}},
		{11, []api.Share{share("a", 2), share("b", 3)}, []int{4, 7}},
		// Far apart: in 65536 rounds 1 by 65535 comes to one slot, 1 by 65536 just in the last one, 1 by 65537 to none.
		{65537, []api.Share{share("a", 65535), share("b", 1)}, []int{65536, 1}},
		{65537, []api.Share{share("a", 65536), share("b", 1)}, []int{65536, 1}},
		{65537, []api.Share{share("a", 65537), share("b", 1)}, []int{65537, 0}},
		{65537, []api.Share{share("a", full), share("b", 1)}, []int{65537, 0}},
		{65537, []api.Share{share("b", full), share("a", 16)}, []int{1, 65536}},
		{65537, []api.Share{share("b", full), share("a", 15)}, []int{0, 65537}},
		{65537, []api.Share{share("a", full), share("b", full), share("c", full-1)}, []int{21846, 21846, 21845}},
		{101, append(row(200, always(0)), share("a", 1)), []int{101}},
	} {
		if l := maglev.Count(build(t, upKey(), x.size, x.l)); !slices.Equal(l, x.want) {
			t.Errorf("%d: %d, not %d", i, l, x.want)
		}
	}
}

// P1: tables that Build doesn't answer end as well.
func TestOtherTables(t *testing.T) {
	for _, tab := range []api.Table{
		{Slots: []int{0, 1, -1}}, {Names: []string{"a"}}, {Names: []string{"a"}, Slots: []int{1, -1, 1 << 62, -1 << 63}}, {Names: []string{"a", "b"}, Slots: []int{1, 2, 0}},
	} {
		for h := range uint64(9) {
			maglev.Pick(tab, h)
		}
		maglev.Count(tab)
	}
}
