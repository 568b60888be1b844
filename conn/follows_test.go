package conn_test

import (
	"testing"

	"wayleave/api"
	"wayleave/conn"
)

// P20.3: by Rst each state of TCP comes to Closed, and a flow that begins with it does.
func TestRst(t *testing.T) {
	for _, flags := range whole() {
		if flags |= api.Rst; conn.Begin(api.ProtoTcp, flags) != api.Closed {
			t.Error(flags)
		}
		for _, state := range []int{api.Opening, api.Open, api.Closing, api.Closed} {
			if got := conn.Next(state, flags); got != api.Closed {
				t.Error(state, flags, got)
			}
		}
	}
}

// P20.3: behind Rst it is Closed till something opens, and no longer.
func TestTillItOpens(t *testing.T) {
	for _, flags := range whole() {
		want := api.Closed
		if flags&api.Syn != 0 && flags&(api.Ack|api.Rst) == 0 {
			want = api.Opening
		}
		if got := conn.Next(api.Closed, flags); got != want {
			t.Error(flags, got)
		}
	}
	c := chance(213)
	for range 2000 {
		state := api.Opening + c.below(4)
		l := append(c.row(c.below(9)), api.Rst|c.flags())
		for range c.below(30) {
			flags := c.flags()
			if flags&api.Syn != 0 {
				// Nothing that opens: an answer, or one more end.
				flags |= api.Ack
			}
			if l = append(l, flags); conn.Run(state, l) != api.Closed {
				t.Fatal(state, l)
			}
		}
		if l = append(l, api.Syn); conn.Run(state, l) != api.Opening {
			t.Fatal(state, l)
		}
	}
}

// P20.3: Closing ends by Rst alone.
func TestClosing(t *testing.T) {
	for _, flags := range whole() {
		want := api.Closing
		if flags&api.Rst != 0 {
			want = api.Closed
		}
		if got := conn.Next(api.Closing, flags); got != want {
			t.Error(flags, got)
		}
	}
	c := chance(214)
	for range 2000 {
		l := c.row(c.below(40))
		for i := range l {
			l[i] &^= api.Rst
		}
		if got := conn.Run(api.Closing, l); got != api.Closing {
			t.Fatal(l, got)
		}
		if got := conn.Run(api.Closing, append(l, api.Rst)); got != api.Closed {
			t.Fatal(l, got)
		}
	}
}

// P20.3: Open comes to Opening by way of Closed alone.
func TestOpen(t *testing.T) {
	for _, flags := range whole() {
		for _, state := range []int{api.Open, api.Closing} {
			if got := conn.Next(state, flags); got == api.Opening {
				t.Error(state, flags)
			}
		}
	}
	c := chance(215)
	for range 2000 {
		state, closed := api.Open, false
		for _, flags := range c.row(60) {
			state = conn.Next(state, flags)
			if state == api.Opening && !closed {
				t.Fatal(flags)
			}
			closed = state == api.Closed || closed && state == api.Opening
		}
	}
}

// P20.3: to Open none comes but from Opening, and from itself.
func TestToOpen(t *testing.T) {
	for _, flags := range whole() {
		for _, state := range []int{api.Closing, api.Closed, api.Datagrams} {
			if got := conn.Next(state, flags); got == api.Open {
				t.Error(state, flags)
			}
		}
	}
}

// P20.1: a Datagrams stays, and none of the others becomes one.
func TestDatagrams(t *testing.T) {
	for _, flags := range whole() {
		if got := conn.Next(api.Datagrams, flags); got != api.Datagrams {
			t.Error(flags, got)
		}
		for _, state := range []int{api.Opening, api.Open, api.Closing, api.Closed} {
			if got := conn.Next(state, flags); got < api.Opening || got > api.Closed {
				t.Error(state, flags, got)
			}
		}
	}
	c := chance(216)
	for range 500 {
		if l := c.row(c.below(100)); conn.Run(api.Datagrams, l) != api.Datagrams {
			t.Fatal(l)
		}
	}
}

// P20.1: the same flags once more change nothing, but where Closed comes to Opening by Syn and Fin together.
func TestOnceMore(t *testing.T) {
	for _, state := range append(states(), strange()...) {
		for flags := range 64 {
			once := conn.Next(state, flags)
			twice := conn.Next(once, flags)
			turns := state == api.Closed && flags&(api.Syn|api.Fin|api.Ack|api.Rst) == api.Syn|api.Fin
			if turns && twice != api.Closing || !turns && twice != once {
				t.Error(state, flags, once, twice)
			}
		}
	}
}

// P20.3: what is stale stays so, as time goes on; what isn't wasn't.
func TestStaysStale(t *testing.T) {
	for _, state := range append(states(), strange()...) {
		for _, seen := range ticks() {
			for _, n := range []int{-api.MaxTick - 1, -api.MaxTick, -5, -1, 0, 1, 5, 1000, api.MaxTick - 1, api.MaxTick, api.MaxTick + 1} {
				was := false
				// The ticks rise.
				for _, now := range ticks() {
					is := checkStale(t, state, seen, now, same(n))
					if was && !is {
						t.Fatal(state, seen, now, n)
					}
					was = is
				}
			}
		}
	}
	c := chance(217)
	for range 3000 {
		state, now, idle := c.state(), c.tick(), same(c.below(60)-10)
		seen := min(max(now, 0), api.MaxTick) - c.below(60) + 5
		was := false
		for range 60 {
			is := conn.Stale(state, seen, now, idle)
			if was && !is {
				t.Fatal(state, seen, now, idle)
			}
			was = is
			if now < api.MaxTick {
				now += c.below(4)
			}
		}
	}
}

// P20.3: one that was seen later isn't stale sooner, nor is one with more idle.
func TestLater(t *testing.T) {
	c := chance(218)
	for range 20000 {
		state, now := c.of(states()), c.tick()
		seen := min(max(now, 0), api.MaxTick) - c.below(60) + 5
		idle, later := same(c.below(60)-10), seen+c.below(5)
		more := idle
		more[state] += c.below(5)
		if !conn.Stale(state, seen, now, idle) && (conn.Stale(state, later, now, idle) || conn.Stale(state, seen, now, more)) {
			t.Fatal(state, seen, now, idle)
		}
	}
}
