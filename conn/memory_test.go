package conn_test

import (
	"slices"
	"testing"

	"wayleave/conn"
)

// P20.4: the flags that are handed in stay, and what is behind them.
func TestArgumentsStay(t *testing.T) {
	c := chance(219)
	for range 2000 {
		room := c.row(c.below(40) + 3)
		n := c.below(len(room) + 1)
		was := slices.Clone(room)
		conn.Run(c.state(), room[:n])
		if !slices.Equal(room, was) {
			t.Fatal(room, was)
		}
	}
}

// P20.4: the idles that are handed in stay.
func TestIdleStays(t *testing.T) {
	c := chance(220)
	for range 2000 {
		var idle [6]int
		for i := range idle {
			idle[i] = c.tick()
		}
		was := idle
		conn.Stale(c.state(), c.tick(), c.tick(), idle)
		if idle != was {
			t.Fatal(idle, was)
		}
	}
}

// P20.4: what is answered hangs on the arguments alone: flags that are written over afterwards change nothing.
func TestSameAgain(t *testing.T) {
	c := chance(221)
	for range 500 {
		state, l := c.state(), c.row(c.below(40))
		was, first := slices.Clone(l), conn.Run(state, l)
		for i := range l {
			l[i] = 4
		}
		conn.Run(state, l)
		if got := conn.Run(state, was); got != first {
			t.Fatal(state, was, got, first)
		}
		flags, proto := c.flags(), c.of(protos())
		begun, next := conn.Begin(proto, flags), conn.Next(state, flags)
		conn.Begin(c.of(protos()), c.flags())
		conn.Next(c.state(), c.flags())
		if conn.Begin(proto, flags) != begun || conn.Next(state, flags) != next {
			t.Fatal(proto, state, flags)
		}
	}
}
