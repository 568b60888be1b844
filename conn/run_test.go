package conn_test

import (
	"slices"
	"testing"

	"wayleave/api"
	"wayleave/conn"
)

// P20.1: the chapter's example in one go, and known rows.
func TestKnownRuns(t *testing.T) {
	const syn, ack, fin, rst = api.Syn, api.Ack, api.Fin, api.Rst
	for i, x := range []struct {
		state int
		l     []int
		want  int
	}{
		{api.Opening, []int{syn | ack, ack, fin, ack}, api.Closing},
		{api.Opening, []int{syn | ack, ack, fin}, api.Closing},
		{api.Opening, []int{syn | ack, ack}, api.Open},
		{api.Opening, []int{syn | ack}, api.Opening},
		{api.Opening, []int{syn, syn, syn | ack, 0}, api.Opening},
		{api.Opening, []int{ack, syn}, api.Open},
		{api.Open, []int{fin, fin | ack, ack, syn}, api.Closing},
		{api.Open, []int{fin, rst, ack}, api.Closed},
		{api.Open, []int{rst, fin, ack}, api.Closed},
		{api.Open, []int{rst, syn, fin}, api.Closing},
		{api.Open, []int{rst, syn, ack}, api.Open},
		{api.Open, []int{rst, syn | ack, ack}, api.Closed},
		{api.Closed, []int{syn, rst, syn}, api.Opening},
		{api.Closed, []int{syn | fin, ack}, api.Open},
		{api.Closing, []int{syn, ack}, api.Closing},
		{api.Closing, []int{syn, rst, syn, ack}, api.Open},
		{api.Datagrams, []int{syn, ack, fin, rst}, api.Datagrams},
		{0, []int{syn, ack}, 0},
		{6, []int{syn}, 0},
		{-1, []int{0, 0, 0}, 0},
	} {
		if got := conn.Run(x.state, x.l); got != x.want {
			t.Error(i, got)
		}
	}
}

// P20.1: without flags it is what it was, a number that is no state too.
func TestNoFlags(t *testing.T) {
	for _, state := range append(states(), strange()...) {
		if got := conn.Run(state, nil); got != state {
			t.Error(state, got)
		}
		if got := conn.Run(state, []int{}); got != state {
			t.Error(state, got)
		}
	}
}

// P20.1: one number of flags is a step.
func TestOneFlags(t *testing.T) {
	for _, state := range append(states(), strange()...) {
		for _, flags := range whole() {
			if got, want := checkRun(t, state, []int{flags}), conn.Next(state, flags); got != want {
				t.Fatal(state, flags, got, want)
			}
		}
	}
}

// P20.1: each two of the 64 choices of flags, of each state.
func TestEachTwo(t *testing.T) {
	for _, state := range append(states(), 0, -1, 6) {
		for one := range 64 {
			for two := range 64 {
				if got, want := checkRun(t, state, []int{one, two}), conn.Next(conn.Next(state, one), two); got != want {
					t.Fatal(state, one, two, got, want)
				}
			}
		}
	}
}

// P20.1: each row of up to 6 of the flags that do something.
func TestEachRow(t *testing.T) {
	few := []int{0, api.Syn, api.Ack, api.Syn | api.Ack, api.Fin, api.Rst, api.Syn | api.Fin}
	rows := [][]int{nil}
	for range 6 {
		var longer [][]int
		for _, l := range rows {
			for _, flags := range few {
				longer = append(longer, append(slices.Clone(l), flags))
			}
		}
		for _, l := range longer {
			for state := 0; state < 7; state++ {
				if got, want := conn.Run(state, l), toldRun(state, l); got != want {
					t.Fatal(state, l, got, want)
				}
			}
		}
		rows = longer
	}
}

// P20.1: long rows, of a state or of none.
func TestLongRuns(t *testing.T) {
	c := chance(208)
	for range 3000 {
		checkRun(t, c.state(), c.row(c.below(100)))
	}
	for range 20 {
		checkRun(t, c.state(), c.row(20000))
	}
}

// P20.1: of all states that a row goes through the last one counts.
func TestStepsOfRuns(t *testing.T) {
	c := chance(209)
	for range 1000 {
		state, l := c.state(), c.row(c.below(60))
		want := state
		for i, flags := range l {
			want = conn.Next(want, flags)
			if got := conn.Run(state, l[:i+1]); got != want {
				t.Fatal(state, l[:i+1], got, want)
			}
		}
	}
}

// P20.1: flags in two goes come to what they come to in one, wherever they are parted.
func TestTwoGoes(t *testing.T) {
	c := chance(210)
	for range 1000 {
		state, l := c.state(), c.row(c.below(50))
		want := conn.Run(state, l)
		for i := range len(l) + 1 {
			if got := conn.Run(conn.Run(state, l[:i]), l[i:]); got != want {
				t.Fatal(state, l, i, got, want)
			}
		}
	}
}

// P20.1: likewise in many goes.
func TestManyGoes(t *testing.T) {
	c := chance(211)
	for range 1000 {
		state, l := c.state(), c.row(c.below(200))
		got, want := state, conn.Run(state, l)
		for len(l) > 0 {
			n := c.below(min(len(l), 9) + 1)
			got = conn.Run(got, l[:n])
			l = l[n:]
		}
		if got != want {
			t.Fatal(state, got, want)
		}
	}
}
