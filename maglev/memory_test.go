package maglev_test

import (
	"slices"
	"testing"

	"wayleave/api"
	"wayleave/maglev"
)

// cloned is the table in memory of its own.
func cloned(t api.Table) api.Table {
	return api.Table{Names: slices.Clone(t.Names), Slots: slices.Clone(t.Slots)}
}

// spoil writes into all that a table has, the room behind its lists' lengths included.
func spoil(t api.Table) {
	for i := range t.Names[:cap(t.Names)] {
		t.Names[:cap(t.Names)][i] = "spoilt"
	}
	for i := range t.Slots[:cap(t.Slots)] {
		t.Slots[:cap(t.Slots)][i] = -7
	}
}

// P17.4: the shares stay, with the room behind their list's length, whether they may be or not.
func TestSharesStay(t *testing.T) {
	c := chance(177)
	all := append(lists(), []api.Share{share("b", 1), share("a", 2), share("b", 3)}, []api.Share{share("b", 1), share("a", -1)}, row(1025, always(1)))
	for _, l := range all {
		room := append(c.mixed(l), share("y", 5), share("x", 0), share("", -3))
		was := slices.Clone(room)
		for _, size := range []int{2, 8, 251} {
			maglev.Build(upKey(), size, room[:len(l)])
			if !slices.Equal(room, was) {
				t.Fatal(size, short(l))
			}
		}
	}
}

// P17.4: the shares aren't kept: what is written into them then doesn't show in the table, nor what is written into that in them.
func TestSharesNotKept(t *testing.T) {
	for _, l := range lists() {
		tab := build(t, upKey(), 31, l)
		was, list := cloned(tab), slices.Clone(l)
		for i := range l {
			l[i] = share("other", 1+i)
		}
		if !same(tab, was) {
			t.Fatal(short(list))
		}
		copy(l, list)
		spoil(tab)
		if !slices.Equal(l, list) || !same(build(t, upKey(), 31, l), was) {
			t.Fatal(short(list))
		}
	}
}

// P17.4: names whose bytes are in memory that is used again.
func TestNamesNotKept(t *testing.T) {
	b := []byte("web")
	one := build(t, upKey(), 7, []api.Share{share(string(b), 1)})
	copy(b, "top")
	two := build(t, upKey(), 7, []api.Share{share(string(b), 1)})
	if one.Names[0] != "web" || two.Names[0] != "top" {
		t.Error(one.Names, two.Names)
	}
}

// P17.4: two tables share no memory.
func TestTablesApart(t *testing.T) {
	for _, l := range lists() {
		for _, size := range []int{2, 251, 65537} {
			one, two := build(t, upKey(), size, l), build(t, upKey(), size, l)
			was := cloned(one)
			spoil(one)
			if !same(two, was) {
				t.Fatal(size, short(l))
			}
			if n, ok := maglev.Pick(two, 1); n != toldPick(was, 1) || !ok {
				t.Fatal(size, short(l), n)
			}
			if !same(build(t, upKey(), size, l), was) {
				t.Fatal(size, short(l))
			}
			spoil(two)
			if !same(build(t, upKey(), size, l), was) {
				t.Fatal(size, short(l))
			}
		}
	}
}

// P17.4: a table stays while it is asked, and shares no memory with what Count answers, nor do two of these.
func TestCountApart(t *testing.T) {
	for _, l := range lists() {
		for _, size := range []int{2, 31, 65537} {
			tab := build(t, upKey(), size, l)
			was := cloned(tab)
			one, two := maglev.Count(tab), maglev.Count(tab)
			count := slices.Clone(one)
			for i := range one[:cap(one)] {
				one[:cap(one)][i] = -9
			}
			if !slices.Equal(two, count) || !slices.Equal(maglev.Count(tab), count) {
				t.Fatal(size, short(l))
			}
			for h := range uint64(40) {
				maglev.Pick(tab, h<<50+h)
			}
			if !same(tab, was) {
				t.Fatal(size, short(l))
			}
			spoil(tab)
			if !slices.Equal(two, count) {
				t.Fatal(size, short(l))
			}
		}
	}
}

// P17.4: tables stay while others are built.
func TestTablesStay(t *testing.T) {
	var all, was []api.Table
	for _, key := range keys() {
		for _, l := range lists() {
			tab := build(t, key, 251, l)
			all, was = append(all, tab), append(was, cloned(tab))
		}
	}
	for i := range all {
		if !same(all[i], was[i]) {
			t.Error(i)
		}
	}
}

// P17.4: what is in the room behind the table's own lists may be used: the table stays.
func TestRoomBehind(t *testing.T) {
	l := row(5, always(3))
	one := build(t, upKey(), 13, l)
	was := cloned(one)
	_ = append(one.Names, "more")
	_ = append(one.Slots, 99)
	if !same(one, was) || !same(build(t, upKey(), 13, l), was) {
		t.Error(one)
	}
}

// P17.4: a pool's changes are built one after the other, each table from the list that was changed in its place.
func TestChanged(t *testing.T) {
	l := row(20, always(1024))
	var all, was []api.Table
	for i := range l {
		l[i].Quanta = i * 100
		tab := check(t, upKey(), 101, l)
		all, was = append(all, tab), append(was, cloned(tab))
	}
	for i := range all {
		if !same(all[i], was[i]) {
			t.Error(i)
		}
	}
}
