package flow_test

import (
	"slices"
	"testing"

	"wayleave/api"
	"wayleave/flow"
)

// P21.4: the same acts come to the same answers, whatever the key is.
func TestAnyKey(t *testing.T) {
	var tables []*flow.Table
	for _, k := range keys() {
		tables = append(tables, fresh(t, k, 12))
	}
	c := chance(222)
	for i := range 3000 {
		f, g, now, idle := c.flow(30), c.flow(30), c.below(40), c.idle()
		sweeps := c.below(60) == 0
		var first []any
		for at, tab := range tables {
			gone, is, e := tab.Put(f)
			was, there := tab.Get(g.Key)
			answers := []any{gone, is, e, was, there, tab.Len()}
			if i%3 == 0 {
				answers = append(answers, tab.Drop(g.Key), tellAll(tab.List()))
			}
			if sweeps {
				answers = append(answers, tellAll(tab.Sweep(now, idle)), tab.Len())
			}
			if at == 0 {
				first = answers
			}
			if !slices.Equal(answers, first) {
				t.Fatal(i, at, answers, first)
			}
		}
	}
}

// P21.4: each bit of the key.
func TestKeyBits(t *testing.T) {
	want := ""
	for bit := -1; bit < 128; bit++ {
		k := key()
		if bit >= 0 {
			k[bit/8] ^= 1 << (bit % 8)
		}
		tab := fresh(t, k, 10)
		text := ""
		for i := range 25 {
			gone, _, _ := tab.Put(made(i*7%16, i*5%11))
			text += tell(gone)
			if i%4 == 3 {
				tab.Drop(tuple(i % 16))
			}
		}
		text += tellAll(tab.List()) + tellAll(tab.Sweep(8, same(2)))
		if bit < 0 {
			want = text
		}
		if text != want {
			t.Fatal(bit)
		}
	}
}

// P21.4: as long as there is room, the order in which flows of unlike Keys were put tells nothing: not now, and not in what is done then.
func TestAnyOrder(t *testing.T) {
	l := []api.Flow{made(0, 4), made(1, 4), made(2, 4), made(3, 1), base(true)}
	want := ""
	for _, k := range keys() {
		for _, in := range orders(len(l)) {
			tab := fresh(t, k, len(l))
			for _, i := range in {
				tab.Put(l[i])
			}
			text := tellAll(tab.List())
			for i := range 3 {
				gone, _, _ := tab.Put(made(10+i, 6))
				text += "\n" + tell(gone)
			}
			text += tellAll(tab.List()) + tellAll(tab.Sweep(6, same(0)))
			if want == "" {
				want = text
			}
			if text != want {
				t.Fatal(in)
			}
		}
	}
}

// P21.4: the same of flows whose places are the same, and of many.
func TestAnyOrderCrowds(t *testing.T) {
	c := chance(223)
	var lists [][]api.Flow
	for _, room := range []int{6, 40} {
		lists = append(lists, crowds(key(), room, room)...)
	}
	for _, l := range lists {
		want := ""
		for range 6 {
			tab := fresh(t, key(), len(l))
			for _, i := range c.order(len(l)) {
				if _, is, _ := tab.Put(l[i]); is {
					t.Fatal("no room", i)
				}
			}
			text := tellAll(tab.List())
			for i := range 4 {
				gone, _, _ := tab.Put(made(1<<20+i, most))
				tab.Drop(l[len(l)-1-i].Key)
				text += "\n" + tell(gone) + tellAll(tab.List())
			}
			if want == "" {
				want = text
			}
			if text != want {
				t.Fatal(tellAll(l))
			}
		}
	}
}

// P21.4: a flow that came, went, and came again counts as one that came once.
func TestAnyWay(t *testing.T) {
	c := chance(224)
	for range 100 {
		room := 1 + c.below(20)
		one, two := fresh(t, key(), room), fresh(t, keys()[c.below(7)], room)
		var l []api.Flow
		for i := range room {
			l = append(l, made(i*3, c.below(8)))
		}
		for _, f := range l {
			one.Put(f)
		}
		for _, i := range c.order(room) {
			for range c.below(3) {
				f := l[i]
				f.No = c.below(100)
				two.Put(f)
				if c.below(2) == 0 {
					two.Drop(f.Key)
				}
			}
			two.Put(l[i])
		}
		if !slices.Equal(one.List(), two.List()) || one.Len() != two.Len() {
			t.Fatal(room)
		}
		g, is, _ := one.Put(made(1000, 3))
		h, its, _ := two.Put(made(1000, 3))
		if g != h || !is || !its {
			t.Fatal(room, tell(g), tell(h))
		}
	}
}
