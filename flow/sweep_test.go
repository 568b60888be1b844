package flow_test

import (
	"math"
	"slices"
	"testing"

	"wayleave/api"
	"wayleave/flow"
)

// same are six idles that are n.
func same(n int) [6]int { return [6]int{n, n, n, n, n, n} }

// seen is a flow of the tuple of that number, in that state, seen then.
func seen(n, state, tick int) api.Flow {
	f := made(n, n)
	f.State, f.Seen = state, tick
	return f
}

// P21.3: known sweeps.
func TestKnownSweeps(t *testing.T) {
	put := func() *flow.Table {
		tab := fresh(t, key(), 10)
		for i, state := range []int{api.Datagrams, api.Closed, api.Closing, api.Open, api.Opening} {
			tab.Put(seen(50-i, state, 100+i))
		}
		return tab
	}
	for i, x := range []struct {
		now  int
		idle [6]int
		want []int
	}{
		{100, [6]int{}, nil},
		{101, [6]int{}, []int{50}},
		{104, [6]int{}, []int{47, 48, 49, 50}},
		{105, [6]int{}, []int{46, 47, 48, 49, 50}},
		{105, [6]int{0, 1, 1, 1, 1, 1}, []int{47, 48, 49, 50}},
		{105, [6]int{0, 0, 1, 2, 3, 4}, []int{46, 47, 48, 49, 50}},
		{105, [6]int{0, 1, 2, 3, 4, 5}, nil},
		{106, [6]int{0, 1, 2, 3, 4, 6}, []int{46, 47, 48, 49}},
		{110, [6]int{0, 100, 100, 7, 100, 100}, []int{48}},
		{200, [6]int{-9, 100, 100, 100, 100, 99}, []int{50}},
		{0, [6]int{}, nil},
		{-5, [6]int{}, nil},
		{0, same(-101), []int{50}},
		{0, same(-103), []int{48, 49, 50}},
		{0, same(math.MinInt), []int{46, 47, 48, 49, 50}},
		{math.MaxInt, same(math.MaxInt), nil},
		{math.MaxInt, same(api.MaxTick - 103), []int{48, 49, 50}},
	} {
		tab := put()
		var got []int
		for _, f := range tab.Sweep(x.now, x.idle) {
			got = append(got, f.No)
			if _, is := tab.Get(f.Key); is {
				t.Error(i, "still there", f.No)
			}
		}
		if !slices.Equal(got, x.want) || tab.Len() != 5-len(got) || len(tab.List()) != 5-len(got) {
			t.Error(i, got, tab.Len())
		}
		if again := tab.Sweep(x.now, x.idle); len(again) != 0 {
			t.Error(i, "again", tellAll(again))
		}
	}
}

// P21.3: a table without flows has none that is stale, and none to list.
func TestSweepNone(t *testing.T) {
	tab := fresh(t, key(), 4)
	for range 3 {
		for _, now := range []int{math.MinInt, 0, api.MaxTick, math.MaxInt} {
			if got := tab.Sweep(now, same(math.MinInt)); len(got) != 0 || len(tab.List()) != 0 || tab.Len() != 0 {
				t.Error(now, tellAll(got))
			}
		}
		tab.Put(made(1, 1))
		tab.Drop(tuple(1))
	}
}

// ticks are those at the edges, and ordinary ones.
func ticks() []int {
	return []int{math.MinInt, math.MinInt + 1, -api.MaxTick, -1, 0, 1, 5, 6, 99, 100, 101, api.MaxTick - 1, api.MaxTick, api.MaxTick + 1, 2 * api.MaxTick, math.MaxInt - 1, math.MaxInt}
}

// P21.3: each state by itself, at each edge: its own idle alone tells.
func TestSweepStates(t *testing.T) {
	for state := 1; state <= 5; state++ {
		for _, tick := range []int{0, 1, 5, 100, api.MaxTick - 1, api.MaxTick} {
			for _, now := range ticks() {
				gap := min(max(now, 0), api.MaxTick) - tick
				for _, n := range []int{gap - 1, gap, gap + 1, -1, 0, 1, math.MinInt, math.MaxInt, api.MaxTick} {
					for _, other := range []int{math.MinInt, math.MaxInt} {
						idle := same(other)
						idle[state] = n
						tab := fresh(t, key(), 2)
						f := seen(3, state, tick)
						tab.Put(f)
						got := tab.Sweep(now, idle)
						if gap > n && !slices.Equal(got, []api.Flow{f}) || gap <= n && len(got) != 0 || tab.Len() != 1-len(got) {
							t.Fatal(state, tick, now, n, tellAll(got))
						}
					}
				}
			}
		}
	}
}

// P21.3: all states at once: each choice of states whose idle has gone by.
func TestSweepChoices(t *testing.T) {
	for choice := range 64 {
		b := pair(t, key(), 40)
		for i := range 35 {
			b.put(seen(i, 1+i%5, 10+i%3))
		}
		var idle [6]int
		for state := range idle {
			idle[state] = 50
			if choice>>state&1 == 1 {
				idle[state] = 8
			}
		}
		b.sweep(20, idle)
		b.check()
		for _, f := range b.table.List() {
			if choice>>f.State&1 == 1 && f.Seen < 12 {
				t.Fatal(choice, tell(f))
			}
		}
		b.sweep(70, idle)
		b.check()
	}
}

// P21.3: none, some and all that are stale, in a full table, and what is put behind that.
func TestSweepSome(t *testing.T) {
	for _, room := range []int{1, 2, 3, 7, 50} {
		for now := range room + 3 {
			b := pair(t, key(), room)
			for i := range room {
				b.put(seen(7*i, api.Open, room-i))
			}
			gone := b.sweep(now, [6]int{})
			if len(gone) != min(max(now-1, 0), room) {
				t.Fatal(room, now, len(gone))
			}
			b.check(tuple(0), tuple(7))
			for i := range len(gone) {
				if _, is, _ := b.put(made(1000+i, i)); is {
					t.Fatal(room, now, i)
				}
			}
			if _, is, _ := b.put(made(2000, 5)); !is {
				t.Fatal(room, now)
			}
			b.check()
		}
	}
}

// P21.3: what is stale goes the oldest first by No and Key, not by when it was seen, nor by its state or name.
func TestSweepOrder(t *testing.T) {
	c := chance(214)
	for range 30 {
		b := pair(t, key(), 60)
		for i, at := range c.order(60) {
			f := made(at, c.of([]int{at, 60 - at, 3, 4}))
			f.Seen, f.State, f.Name = i, 1+c.below(5), []string{"a", "b", "c"}[c.below(3)]
			b.put(f)
		}
		gone := b.sweep(40, same(5))
		if len(gone) != 35 {
			t.Fatal(len(gone))
		}
		for i := 1; i < len(gone); i++ {
			if !toldOlder(gone[i-1], gone[i]) {
				t.Fatal(tell(gone[i-1]), tell(gone[i]))
			}
		}
		b.check()
	}
}

// P21.3: all flows are listed, the oldest first, in whatever order they were put.
func TestListOrder(t *testing.T) {
	want := []api.Flow{base(true), base(false), base(false), base(true), made(9, 9)}
	// The first one is the oldest by its No, though its Key is the greatest; the next two differ in a port, then comes the other family.
	want[0].No, want[0].Key.Dport = 7, 65535
	want[2].Key.Dport = 81
	for _, l := range orders(5) {
		tab := fresh(t, key(), 5)
		for _, i := range l {
			tab.Put(want[i])
		}
		if got := tab.List(); !slices.Equal(got, want) {
			t.Fatal(l, tellAll(got))
		}
	}
	c := chance(215)
	for range 20 {
		b := pair(t, key(), 100)
		for range 150 {
			b.put(c.flow(80))
		}
		l := b.table.List()
		for i := 1; i < len(l); i++ {
			if !toldOlder(l[i-1], l[i]) {
				t.Fatal(tell(l[i-1]), tell(l[i]))
			}
		}
		b.check()
	}
}

// P21.3: to list changes nothing.
func TestListAgain(t *testing.T) {
	b := filled(t, 9, 9)
	for range 5 {
		b.check()
		b.put(made(50, 3))
	}
}

// P21.3: how many there are, step by step.
func TestLen(t *testing.T) {
	tab := fresh(t, key(), 3)
	for i, x := range []struct {
		act  func()
		want int
	}{
		{func() {}, 0},
		{func() { tab.Put(made(1, 1)) }, 1},
		{func() { tab.Put(made(1, 2)) }, 1},
		{func() { tab.Put(made(2, 2)) }, 2},
		{func() { tab.Put(api.Flow{}) }, 2},
		{func() { tab.Drop(tuple(3)) }, 2},
		{func() { tab.Put(made(3, 3)) }, 3},
		{func() { tab.Put(made(4, 4)) }, 3},
		{func() { tab.Drop(tuple(2)) }, 3},
		{func() { tab.Drop(tuple(1)) }, 2},
		{func() { tab.Sweep(5, [6]int{}) }, 2},
		{func() { tab.Get(tuple(3)) }, 2},
		{func() { tab.Sweep(6, [6]int{}) }, 0},
		{func() { tab.Drop(tuple(3)) }, 0},
		{func() { tab.Put(made(3, 3)) }, 1},
	} {
		x.act()
		if tab.Len() != x.want || len(tab.List()) != x.want {
			t.Error(i, tab.Len(), len(tab.List()))
		}
	}
}
