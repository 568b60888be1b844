package conn_test

import (
	"math"
	"testing"

	"wayleave/api"
	"wayleave/conn"
)

// P20.2: known ticks, with an idle of its own for each state.
func TestKnownStale(t *testing.T) {
	idle := [6]int{1000, 5, 100, 10, 0, 30}
	for i, x := range []struct {
		state, seen, now int
		want             bool
	}{
		{api.Opening, 7, 7, false}, {api.Opening, 7, 11, false}, {api.Opening, 7, 12, false}, {api.Opening, 7, 13, true}, {api.Opening, 7, 14, true},
		{api.Open, 7, 106, false}, {api.Open, 7, 107, false}, {api.Open, 7, 108, true},
		{api.Closing, 7, 16, false}, {api.Closing, 7, 17, false}, {api.Closing, 7, 18, true},
		{api.Closed, 7, 6, false}, {api.Closed, 7, 7, false}, {api.Closed, 7, 8, true},
		{api.Datagrams, 7, 36, false}, {api.Datagrams, 7, 37, false}, {api.Datagrams, 7, 38, true},
		{api.Open, 107, 7, false}, {api.Open, 1000, 0, false}, {api.Closed, 8, 0, false},
		{0, 7, 7, true}, {0, 1000, 7, true}, {6, 7, 7, true}, {-1, 7, 7, true}, {math.MinInt, 0, 0, true}, {math.MaxInt, 0, 0, true},
	} {
		if got := conn.Stale(x.state, x.seen, x.now, idle); got != x.want {
			t.Error(i, got)
		}
	}
}

// P20.2: ticks below 0 count as 0, those above MaxTick as that.
func TestStaleBounds(t *testing.T) {
	idle := same(20)
	for i, x := range []struct {
		seen, now int
		want      bool
	}{
		{-1, 20, false}, {-1, 21, true}, {-5, 16, false}, {-5, 20, false}, {-5, 21, true},
		{math.MinInt, 20, false}, {math.MinInt, 21, true}, {math.MinInt, -1, false}, {-100, -1, false}, {-100, 0, false}, {0, -100, false},
		{api.MaxTick - 20, api.MaxTick, false}, {api.MaxTick - 21, api.MaxTick, true},
		{api.MaxTick - 20, api.MaxTick + 1, false}, {api.MaxTick - 21, api.MaxTick - 1, false}, {api.MaxTick - 20, math.MaxInt, false}, {api.MaxTick - 21, math.MaxInt, true},
		{api.MaxTick, api.MaxTick + 21, false}, {api.MaxTick, math.MaxInt, false}, {api.MaxTick + 1, math.MaxInt, false}, {math.MaxInt, math.MinInt, false},
		{math.MinInt, math.MaxInt, true}, {0, api.MaxTick, true}, {math.MaxInt, math.MaxInt, false}, {math.MinInt, math.MinInt, false},
	} {
		for _, state := range states() {
			if got := conn.Stale(state, x.seen, x.now, idle); got != x.want {
				t.Error(i, state, got)
			}
		}
	}
	whole := same(api.MaxTick)
	less := same(api.MaxTick - 1)
	for _, state := range states() {
		if conn.Stale(state, math.MinInt, math.MaxInt, whole) || !conn.Stale(state, math.MinInt, math.MaxInt, less) {
			t.Error(state)
		}
	}
}

// P20.2: each two ticks at the edges, with idle of as many as have gone by, one less, one more, and others.
func TestEachTicks(t *testing.T) {
	for _, seen := range ticks() {
		for _, now := range ticks() {
			gone := min(max(now, 0), 1<<40) - min(max(seen, 0), 1<<40)
			for _, n := range []int{gone, gone - 1, gone + 1, -gone, 0, 1, -1, 100, -100, api.MaxTick, api.MaxTick + 1, -api.MaxTick, -api.MaxTick - 1, math.MinInt, math.MinInt + 1, math.MaxInt - 1, math.MaxInt} {
				for _, state := range states() {
					checkStale(t, state, seen, now, same(n))
				}
			}
			for _, state := range states() {
				if conn.Stale(state, seen, now, same(gone)) || conn.Stale(state, seen, now, same(gone+1)) || !conn.Stale(state, seen, now, same(gone-1)) {
					t.Fatal(state, seen, now)
				}
			}
		}
	}
}

// P20.2: idle below 0 is less than none: it may be stale where no tick has gone by, and ahead of its sight.
func TestIdleBelow(t *testing.T) {
	for _, state := range states() {
		for i, x := range []struct {
			seen, now, idle int
			want            bool
		}{
			{5, 5, -1, true}, {5, 5, 0, false}, {5, 6, 0, true}, {5, 4, 0, false}, {5, 4, -1, false}, {5, 4, -2, true}, {5, 3, -2, false}, {5, 3, -3, true},
			{5, 5, math.MinInt, true}, {math.MaxInt, math.MinInt, math.MinInt, true}, {math.MaxInt, math.MinInt, -api.MaxTick, false}, {math.MaxInt, math.MinInt, -api.MaxTick - 1, true},
			{math.MinInt, math.MaxInt, math.MaxInt, false}, {0, 5, math.MaxInt, false},
		} {
			if got := conn.Stale(state, x.seen, x.now, same(x.idle)); got != x.want {
				t.Error(state, i, got)
			}
		}
	}
}

// P20.2: of the six each counts for its own state alone, the first for none.
func TestIdleApart(t *testing.T) {
	for _, state := range states() {
		for _, n := range []int{math.MinInt, -1, 0, 9, 10, 11, 1000, math.MaxInt} {
			low, high := same(9), same(10)
			for i := range 6 {
				if i != state {
					low[i], high[i] = n, n
				}
			}
			if !conn.Stale(state, 30, 40, low) {
				t.Error(state, n, "low")
			}
			if conn.Stale(state, 30, 40, high) {
				t.Error(state, n, "high")
			}
		}
	}
}

// P20.2: what is no state is stale, by whatever ticks and idles.
func TestStaleOfNone(t *testing.T) {
	for _, state := range strange() {
		for _, seen := range ticks() {
			for _, now := range ticks() {
				for _, n := range []int{math.MinInt, -1, 0, 1, api.MaxTick, math.MaxInt} {
					if !conn.Stale(state, seen, now, same(n)) {
						t.Fatal(state, seen, now, n)
					}
				}
			}
		}
	}
	for state := -300; state < 300; state++ {
		if got := conn.Stale(state, 9, 9, same(9)); got != (state < 1 || state > 5) {
			t.Error(state, got)
		}
	}
}

// P20.2: any numbers at all.
func TestAnyStale(t *testing.T) {
	c := chance(212)
	for range 100000 {
		seen, now := c.tick(), c.tick()
		var idle [6]int
		for i := range idle {
			switch c.below(3) {
			case 0:
				idle[i] = now - seen + c.below(5) - 2
			case 1:
				idle[i] = c.below(60) - 10
			default:
				idle[i] = int(c.next()<<16 ^ c.next())
			}
		}
		checkStale(t, c.state(), seen, now, idle)
	}
}
