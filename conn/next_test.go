package conn_test

import (
	"math"
	"testing"

	"wayleave/api"
	"wayleave/conn"
)

// P20.1: the chapter's example, step by step.
func TestExample(t *testing.T) {
	state := conn.Begin(api.ProtoTcp, api.Syn)
	if state != api.Opening {
		t.Error(state)
	}
	for i, x := range []struct{ flags, want int }{
		{api.Syn | api.Ack, api.Opening},
		{api.Ack, api.Open},
		{api.Fin, api.Closing},
		{api.Ack, api.Closing},
	} {
		if state = conn.Next(state, x.flags); state != x.want {
			t.Error(i, state)
		}
	}
}

// P20.1: known steps of each state.
func TestKnownNext(t *testing.T) {
	const synack, finack = api.Syn | api.Ack, api.Fin | api.Ack
	for i, x := range []struct{ state, flags, want int }{
		{api.Opening, 0, api.Opening},
		{api.Opening, api.Syn, api.Opening},
		{api.Opening, synack, api.Opening},
		{api.Opening, api.Ack, api.Open},
		{api.Opening, api.Ack | api.Psh, api.Open},
		{api.Opening, api.Ack | api.Urg, api.Open},
		{api.Opening, api.Psh, api.Opening},
		{api.Opening, api.Urg, api.Opening},
		{api.Opening, api.Fin, api.Closing},
		{api.Opening, finack, api.Closing},
		{api.Opening, api.Fin | api.Syn, api.Closing},
		{api.Opening, api.Rst, api.Closed},
		{api.Opening, api.Rst | api.Ack, api.Closed},
		{api.Opening, api.Rst | api.Fin, api.Closed},
		{api.Open, 0, api.Open},
		{api.Open, api.Syn, api.Open},
		{api.Open, synack, api.Open},
		{api.Open, api.Ack, api.Open},
		{api.Open, api.Fin, api.Closing},
		{api.Open, finack, api.Closing},
		{api.Open, api.Fin | api.Syn, api.Closing},
		{api.Open, api.Rst, api.Closed},
		{api.Open, api.Rst | api.Fin, api.Closed},
		{api.Closing, 0, api.Closing},
		{api.Closing, api.Syn, api.Closing},
		{api.Closing, synack, api.Closing},
		{api.Closing, api.Ack, api.Closing},
		{api.Closing, api.Fin, api.Closing},
		{api.Closing, finack, api.Closing},
		{api.Closing, api.Rst, api.Closed},
		{api.Closing, api.Rst | api.Syn, api.Closed},
		{api.Closed, 0, api.Closed},
		{api.Closed, api.Syn, api.Opening},
		{api.Closed, api.Syn | api.Psh | api.Urg, api.Opening},
		{api.Closed, api.Syn | api.Fin, api.Opening},
		{api.Closed, synack, api.Closed},
		{api.Closed, synack | api.Fin, api.Closed},
		{api.Closed, api.Ack, api.Closed},
		{api.Closed, api.Fin, api.Closed},
		{api.Closed, finack, api.Closed},
		{api.Closed, api.Rst, api.Closed},
		{api.Closed, api.Rst | api.Syn, api.Closed},
		{api.Datagrams, 0, api.Datagrams},
		{api.Datagrams, api.Rst, api.Datagrams},
		{api.Datagrams, api.Syn, api.Datagrams},
		{api.Datagrams, 63, api.Datagrams},
		{api.Opening, -1, api.Closed},
		{api.Open, -1, api.Closed},
		{api.Closing, -1, api.Closed},
		{api.Closed, -1, api.Closed},
		{api.Closed, -62, api.Opening},
		{api.Opening, -48, api.Open},
		{api.Open, -64, api.Open},
		{api.Open, -63, api.Closing},
		{api.Open, math.MinInt, api.Open},
		{api.Open, math.MaxInt, api.Closed},
		{api.Open, math.MaxInt - 4, api.Closing},
		{api.Opening, math.MinInt + 16, api.Open},
		{api.Closed, math.MinInt + 2, api.Opening},
	} {
		if got := conn.Next(x.state, x.flags); got != x.want {
			t.Error(i, x.state, x.flags, got)
		}
	}
}

// P20.1: each state by each of the 64 choices of flags, with other bits beside them.
func TestEachNext(t *testing.T) {
	for _, state := range states() {
		for _, flags := range whole() {
			checkNext(t, state, flags)
		}
		for _, flags := range strange() {
			checkNext(t, state, flags)
		}
	}
}

// P20.1: what each state becomes, counted over all 64 choices.
func TestNextCounts(t *testing.T) {
	for i, want := range [][6]int{
		{64, 0, 0, 0, 0, 0},
		{0, 12, 4, 16, 32, 0},
		{0, 0, 16, 16, 32, 0},
		{0, 0, 0, 32, 32, 0},
		{0, 8, 0, 0, 56, 0},
		{0, 0, 0, 0, 0, 64},
		{64, 0, 0, 0, 0, 0},
	} {
		var count [6]int
		for flags := range 64 {
			count[conn.Next(i, flags)]++
		}
		if count != want {
			t.Error(i, count)
		}
	}
}

// P20.1: a number that is no state becomes 0, by whatever flags.
func TestNextOfNone(t *testing.T) {
	for _, state := range strange() {
		for _, flags := range whole() {
			if got := conn.Next(state, flags); got != 0 {
				t.Fatal(state, flags, got)
			}
		}
	}
	for state := -300; state < 300; state++ {
		if got := conn.Next(state, api.Ack); (got == 0) != (state < 1 || state > 5) {
			t.Error(state, got)
		}
	}
}

// P20.1: bits above the lowest six count for nothing.
func TestNextBeside(t *testing.T) {
	for _, state := range states() {
		for flags := range 64 {
			want := conn.Next(state, flags)
			for bit := 6; bit < 64; bit++ {
				if got := conn.Next(state, flags|1<<bit); got != want {
					t.Error(state, flags, bit, got)
				}
			}
		}
	}
}

// P20.1: Psh and Urg alone change nothing.
func TestNextPlain(t *testing.T) {
	for _, state := range states() {
		for flags := range 64 {
			if conn.Next(state, flags) != conn.Next(state, flags&^(api.Psh|api.Urg)) {
				t.Error(state, flags)
			}
		}
	}
}

// P20.1: any numbers at all.
func TestAnyNext(t *testing.T) {
	c := chance(207)
	for range 50000 {
		checkNext(t, c.state(), int(c.next()<<16^c.next()))
		checkNext(t, int(c.next()<<16^c.next()), c.flags())
	}
}
