package flow_test

import (
	"slices"
	"testing"

	"wayleave/api"
)

// spoil writes into all that a list has, the room behind its length included.
func spoil(l []api.Flow) {
	l = l[:cap(l)]
	for i := range l {
		l[i] = api.Flow{Key: tuple(7000 + i), Name: "spoilt", State: 1 + i%5, Seen: -7, No: -7 - i}
	}
}

// P21.5: a flow that was put stays as it was, and what becomes of it then shows in no answer.
func TestFlowNotKept(t *testing.T) {
	b := pair(t, key(), 3)
	f := made(1, 5)
	b.put(f)
	if f != made(1, 5) {
		t.Error(tell(f))
	}
	f.Name, f.No, f.Key.Src.B[0], f.State = "other", 1, 99, api.Closed
	b.check(f.Key)
	b.put(f)
	f.Key.Dst.B[3] = 1
	b.check(f.Key)
}

// P21.5: a name whose bytes are in memory that is used again.
func TestNameNotKept(t *testing.T) {
	bytes := []byte("web")
	tab := fresh(t, key(), 2)
	f := made(1, 5)
	f.Name = string(bytes)
	tab.Put(f)
	copy(bytes, "top")
	if g, _ := tab.Get(f.Key); g.Name != "web" {
		t.Error(g.Name)
	}
}

// P21.5: the key and the idles that are handed in stay, and what is written into them then changes nothing.
func TestArgumentsStay(t *testing.T) {
	k, idle := key(), [6]int{0, 1, 2, 3, 4, 5}
	tab := fresh(t, k, 3)
	tab.Put(made(1, 1))
	tab.Put(made(2, 2))
	tab.Sweep(5, idle)
	if k != key() || idle != [6]int{0, 1, 2, 3, 4, 5} {
		t.Error(k, idle)
	}
	k, idle = [16]byte{}, [6]int{}
	for i := range 3 {
		if f, is := tab.Get(tuple(i)); is != (i > 0) || is && f != made(i, i) {
			t.Error(i, tell(f), is)
		}
	}
	if tab.Sweep(7, [6]int{2: 3}); tab.Len() != 2 {
		t.Error(tab.Len())
	}
}

// P21.5: what is written into a list shows in no other one, nor in the table.
func TestListsApart(t *testing.T) {
	for n := range 12 {
		b := filled(t, 11, n)
		one, two := b.table.List(), b.table.List()
		want := b.told.list()
		if spoil(one); !slices.Equal(two, want) {
			t.Fatal(n, tellAll(two))
		}
		b.check(tuple(7000))
		if spoil(two); !slices.Equal(b.table.List(), want) {
			t.Fatal(n)
		}
		for i := range n + 2 {
			b.put(made(i, 1000+i))
		}
		b.check(tuple(7000), tuple(7001))
	}
}

// P21.5: a list stays as it was, whatever is done to the table then.
func TestListsStay(t *testing.T) {
	c := chance(225)
	b := pair(t, key(), 10)
	var lists, were [][]api.Flow
	for range 200 {
		c.act(b, 20)
		l := b.table.List()
		lists, were = append(lists, l), append(were, slices.Clone(l))
	}
	for i := range lists {
		if !slices.Equal(lists[i], were[i]) {
			t.Fatal(i)
		}
	}
	for i := range lists {
		for j := i; j < len(lists); j++ {
			if !slices.Equal(lists[j], were[j]) {
				t.Fatal(i, j)
			}
		}
		spoil(lists[i])
	}
	b.check()
}

// P21.5: the same of what was swept.
func TestSweptApart(t *testing.T) {
	b := pair(t, key(), 10)
	var lists, were [][]api.Flow
	for i := range 20 {
		for j := range 7 {
			b.put(seen(10*i+j, 1+j%5, i+j%3))
		}
		l := b.sweep(i+3, same(1))
		lists, were = append(lists, l), append(were, slices.Clone(l))
		list := b.table.List()
		if i%2 == 0 {
			spoil(l)
			were[i] = slices.Clone(l)
		}
		if !slices.Equal(list, b.told.list()) {
			t.Fatal(i)
		}
		b.check()
	}
	for i := range lists {
		if !slices.Equal(lists[i], were[i]) {
			t.Fatal(i)
		}
	}
}

// P21.5: what is put into the room behind an answer shows in no other.
func TestRoomBehind(t *testing.T) {
	b := filled(t, 9, 9)
	one, two := b.table.List(), b.table.List()
	_ = append(one[:4], made(500, 1))
	_ = append(one, made(501, 1))
	if !slices.Equal(two, b.told.list()) {
		t.Error(tellAll(two))
	}
	gone := b.sweep(5, same(-1))
	_ = append(gone, made(502, 1))
	_ = append(gone[:2], made(503, 1))
	b.check(tuple(500), tuple(501), tuple(502), tuple(503))
}

// P21.5: two tables of the same key know nothing of each other.
func TestTablesApart(t *testing.T) {
	one, two := pair(t, key(), 5), pair(t, key(), 5)
	c := chance(226)
	for range 300 {
		c.act(one, 12)
		two.check(tuple(c.below(12)))
		c.act(two, 12)
		one.check(tuple(c.below(12)))
	}
}

// P21.5: what is asked changes nothing.
func TestAskingStays(t *testing.T) {
	c := chance(227)
	b := pair(t, key(), 8)
	for range 300 {
		c.act(b, 16)
		for range 3 {
			b.get(tuple(c.below(30)))
			b.check(tuple(c.below(30)))
		}
		b.put(api.Flow{})
		b.check()
	}
}
