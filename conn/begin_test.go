package conn_test

import (
	"math"
	"slices"
	"testing"

	"wayleave/api"
	"wayleave/conn"
)

// P20.1: known beginnings of TCP's flows.
func TestKnownBegin(t *testing.T) {
	for i, x := range []struct{ flags, want int }{
		{0, api.Open},
		{api.Syn, api.Opening},
		{api.Syn | api.Ack, api.Open},
		{api.Ack, api.Open},
		{api.Psh | api.Ack, api.Open},
		{api.Psh, api.Open},
		{api.Urg, api.Open},
		{api.Syn | api.Psh | api.Urg, api.Opening},
		{api.Syn | api.Psh | api.Urg | api.Ack, api.Open},
		{api.Fin, api.Closing},
		{api.Fin | api.Ack, api.Closing},
		{api.Fin | api.Syn, api.Closing},
		{api.Fin | api.Syn | api.Ack, api.Closing},
		{api.Rst, api.Closed},
		{api.Rst | api.Ack, api.Closed},
		{api.Rst | api.Syn, api.Closed},
		{api.Rst | api.Fin, api.Closed},
		{api.Rst | api.Fin | api.Syn, api.Closed},
		{63, api.Closed},
		{63 &^ api.Rst, api.Closing},
		{63 &^ (api.Rst | api.Fin), api.Open},
		{63 &^ (api.Rst | api.Fin | api.Ack), api.Opening},
		{64, api.Open},
		{64 | api.Syn, api.Opening},
		{256 | api.Syn | api.Ack, api.Open},
		{-1, api.Closed},
		{-2, api.Closed},
		{-5, api.Closing},
		{-6, api.Open},
		{-22, api.Opening},
		{-64, api.Open},
		{-62, api.Opening},
		{math.MinInt, api.Open},
		{math.MinInt + api.Syn, api.Opening},
		{math.MinInt + api.Fin, api.Closing},
		{math.MinInt + api.Rst, api.Closed},
		{math.MaxInt, api.Closed},
		{math.MaxInt - api.Rst, api.Closing},
		{math.MaxInt - 63, api.Open},
	} {
		if got := conn.Begin(api.ProtoTcp, x.flags); got != x.want {
			t.Error(i, x.flags, got)
		}
	}
}

// P20.1: by each flags a flow of UDP begins as Datagrams.
func TestBeginUdp(t *testing.T) {
	for _, flags := range whole() {
		if got := conn.Begin(api.ProtoUdp, flags); got != api.Datagrams {
			t.Error(flags, got)
		}
	}
}

// P20.1: of each protocol that is neither TCP nor UDP none begins, by whatever flags.
func TestBeginOther(t *testing.T) {
	for _, proto := range protos() {
		if proto == api.ProtoTcp || proto == api.ProtoUdp {
			continue
		}
		for _, flags := range whole() {
			if got := conn.Begin(proto, flags); got != 0 {
				t.Fatal(proto, flags, got)
			}
		}
	}
	for proto := range 300 {
		if got := conn.Begin(proto, api.Syn); (got != 0) != (proto == api.ProtoTcp || proto == api.ProtoUdp) {
			t.Error(proto, got)
		}
	}
}

// P20.1: each of the 64 choices of flags, with other bits beside them, of each protocol.
func TestEachBegin(t *testing.T) {
	for _, proto := range protos() {
		for _, flags := range whole() {
			checkBegin(t, proto, flags)
		}
		for _, flags := range strange() {
			checkBegin(t, proto, flags)
		}
	}
}

// P20.1: what a flow of TCP begins as, counted over all 64 choices.
func TestBeginCounts(t *testing.T) {
	var count [6]int
	for flags := range 64 {
		count[conn.Begin(api.ProtoTcp, flags)]++
	}
	// Half have Rst, half of the others Fin, and of the rest one in four opens.
	if count != [6]int{0, 4, 12, 16, 32, 0} {
		t.Error(count)
	}
}

// P20.1: bits above the lowest six count for nothing.
func TestBeginBeside(t *testing.T) {
	for flags := range 64 {
		want := conn.Begin(api.ProtoTcp, flags)
		for bit := 6; bit < 64; bit++ {
			if got := conn.Begin(api.ProtoTcp, flags|1<<bit); got != want {
				t.Error(flags, bit, got)
			}
		}
	}
}

// P20.1: Psh and Urg alone change nothing.
func TestBeginPlain(t *testing.T) {
	for flags := range 64 {
		if conn.Begin(api.ProtoTcp, flags) != conn.Begin(api.ProtoTcp, flags&^(api.Psh|api.Urg)) {
			t.Error(flags)
		}
	}
}

// P20.1: no call answers anything but a state, or 0.
func TestBeginStates(t *testing.T) {
	c := chance(206)
	for range 20000 {
		proto, flags := c.of(protos()), int(c.next()<<16^c.next())
		checkBegin(t, proto, flags)
		if got := conn.Begin(proto, flags); got != 0 && !slices.Contains(states(), got) {
			t.Fatal(proto, flags, got)
		}
	}
}
