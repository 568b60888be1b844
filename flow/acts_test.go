package flow_test

import (
	"slices"
	"testing"

	"wayleave/api"
)

// act does one of the four to both, of flows of tuples of numbers below n.
func (c *chance) act(b both, n int) {
	b.t.Helper()
	switch f := c.flow(n); c.below(12) {
	case 0, 1, 2:
		b.drop(f.Key)
	case 3:
		b.get(f.Key)
	case 4:
		if c.below(4) == 0 {
			b.sweep(c.of([]int{c.below(40), c.below(40), api.MaxTick}), c.idle())
		}
	case 5:
		f.State = c.below(2) * 6
		b.put(f)
	default:
		b.put(f)
	}
}

// P21.2, P21.3: behind each of many acts all is as in a plain list, in tables of all rooms, of few and many tuples.
func TestActs(t *testing.T) {
	c := chance(219)
	for _, room := range []int{1, 2, 3, 4, 7, 16, 40} {
		for _, n := range []int{1, 2, room, room + 1, 2 * room, 10 * room} {
			for _, k := range keys()[:4] {
				b := pair(t, k, room)
				for range 120 {
					c.act(b, n)
					b.check(tuple(0), tuple(n-1), tuple(n), tuple(c.below(n)))
				}
			}
		}
	}
}

// P21.2, P21.3: many acts in a great table.
func TestManyActs(t *testing.T) {
	c := chance(220)
	b := pair(t, key(), 300)
	for i := range 20000 {
		c.act(b, 500)
		if i%500 == 0 {
			b.check(tuple(500), tuple(1000))
		}
	}
	b.check()
}

// P21.2, P21.3: the greatest table, filled, overfilled, half dropped, and swept.
func TestGreatest(t *testing.T) {
	tab := fresh(t, key(), api.MaxFlows)
	c := chance(221)
	for _, i := range c.order(api.MaxFlows) {
		if _, is, e := tab.Put(made(i, i)); is || e != api.OK {
			t.Fatal(i, is, e)
		}
	}
	for i := range 100 {
		if gone, is, e := tab.Put(made(api.MaxFlows+i, api.MaxFlows+i)); gone != made(i, i) || !is || e != api.OK {
			t.Fatal(i, tell(gone), is, e)
		}
	}
	l := tab.List()
	if len(l) != api.MaxFlows || tab.Len() != api.MaxFlows {
		t.Fatal(len(l), tab.Len())
	}
	for i, f := range l {
		if f != made(i+100, i+100) {
			t.Fatal(i, tell(f))
		}
	}
	for _, i := range c.order(api.MaxFlows / 2) {
		if !tab.Drop(tuple(100 + 2*i)) {
			t.Fatal(i)
		}
	}
	for i := range api.MaxFlows + 200 {
		f, is := tab.Get(tuple(i))
		if want := i >= 100 && i < api.MaxFlows+100 && i%2 == 1; is != want || is && f != made(i, i) {
			t.Fatal(i, tell(f), is)
		}
	}
	if gone := tab.Sweep(6, same(1)); len(gone) != 0 {
		t.Fatal(len(gone))
	}
	if gone := tab.Sweep(6, same(0)); len(gone) != api.MaxFlows/2 || !slices.IsSortedFunc(gone, func(a, b api.Flow) int { return a.No - b.No }) || tab.Len() != 0 || len(tab.List()) != 0 {
		t.Fatal(len(gone), tab.Len())
	}
}

// P21.2: flows that come and go in a row, for long, in a table that is nearly full: what went leaves nothing behind.
func TestRowOfFlows(t *testing.T) {
	for _, room := range []int{1, 2, 5, 32} {
		b := pair(t, key(), room)
		for i := range 3000 {
			b.put(made(i, i))
			if i >= room-1 {
				b.drop(tuple(i - room + 1))
			}
			b.get(tuple(i))
			b.get(tuple(max(i-room, 0)))
			if i%100 == 0 {
				b.check()
			}
		}
	}
}
