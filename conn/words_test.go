package conn_test

import (
	"math"
	"math/big"
	"slices"
	"testing"

	"wayleave/api"
	"wayleave/conn"
)

// states are all that are states.
func states() []int {
	return []int{api.Opening, api.Open, api.Closing, api.Closed, api.Datagrams}
}

// strange are numbers that are no state.
func strange() []int {
	return []int{0, -1, 6, math.MinInt, math.MaxInt, math.MinInt + 1, math.MaxInt - 1, -2, -3, -4, -5, -6, 7, 8, 9, 10, 16, 100, 256 + api.Open, 1<<32 + api.Open, math.MinInt + api.Open, -1 << 32}
}

// protos are protocols that are named, and others.
func protos() []int {
	return []int{api.ProtoTcp, api.ProtoUdp, api.ProtoHop, api.ProtoFour, api.ProtoSix, api.ProtoRoute, api.ProtoFrag, api.ProtoAuth, api.ProtoNone, api.ProtoDest, -1, -6, -17, 1, 2, 3, 5, 7, 16, 18, 255, 256, 256 + 6, 256 + 17, 65536 + 6, 1<<32 + 6, 1<<32 + 17, math.MinInt, math.MaxInt, math.MinInt + 6, math.MinInt + 17, math.MaxInt - 1}
}

// beside are bits above the lowest six, which count for nothing.
func beside() []int {
	return []int{0, 64, 128, 192, 256, 512, 1024, 1 << 31, 1 << 32, 1 << 62, -64, -128, math.MinInt, math.MinInt + 64, math.MaxInt - 63}
}

// whole are all numbers of flags that are tried: each of the 64 choices, alone and with other bits set beside it.
func whole() []int {
	var l []int
	for _, more := range beside() {
		for flags := range 64 {
			l = append(l, more|flags)
		}
	}
	return l
}

// ticks are those at the edges, and ordinary ones.
func ticks() []int {
	return []int{math.MinInt, math.MinInt + 1, -api.MaxTick - 1, -api.MaxTick, -api.MaxTick + 1, -2, -1, 0, 1, 2, 3, 10, 100, 1000, api.MaxTick/2 - 1, api.MaxTick / 2, api.MaxTick/2 + 1, api.MaxTick - 2, api.MaxTick - 1, api.MaxTick, api.MaxTick + 1, api.MaxTick + 2, 2 * api.MaxTick, math.MaxInt - 1, math.MaxInt}
}

// same are six idles that are all n.
func same(n int) [6]int { return [6]int{n, n, n, n, n, n} }

// holds tells whether flags have the one of that number, from Fin 0 on, by their rest.
func holds(flags, number int) bool {
	rest := ((flags % 64) + 64) % 64
	for range number {
		rest /= 2
	}
	return rest%2 == 1
}

// open tells whether flags open, by the words.
func open(flags int) bool { return holds(flags, 1) && !holds(flags, 4) }

// toldBegin is Begin by the words.
func toldBegin(proto, flags int) int {
	if proto == 17 {
		return 5
	}
	if proto == 6 {
		if holds(flags, 2) {
			return 4
		}
		if holds(flags, 0) {
			return 3
		}
		if open(flags) {
			return 1
		}
		return 2
	}
	return 0
}

// toldNext is Next by the words, one behind the other.
func toldNext(state, flags int) int {
	if state == 5 {
		return 5
	}
	if state < 1 || state > 5 {
		return 0
	}
	if holds(flags, 2) {
		return 4
	}
	if state == 4 {
		if open(flags) {
			return 1
		}
		return 4
	}
	if holds(flags, 0) || state == 3 {
		return 3
	}
	if state == 1 && holds(flags, 4) && !holds(flags, 1) {
		return 2
	}
	return state
}

// toldRun is Run by the words.
func toldRun(state int, l []int) int {
	for i := range l {
		state = toldNext(state, l[i])
	}
	return state
}

// toldTick is what a tick counts as.
func toldTick(n int) *big.Int {
	if n < 0 {
		return big.NewInt(0)
	}
	if n > 1<<40 {
		return big.NewInt(1 << 40)
	}
	return big.NewInt(int64(n))
}

// toldStale is Stale by the words, in numbers without an end.
func toldStale(state, seen, now int, idle [6]int) bool {
	if !slices.Contains(states(), state) {
		return true
	}
	gone := new(big.Int).Sub(toldTick(now), toldTick(seen))
	return gone.Cmp(big.NewInt(int64(idle[state]))) > 0
}

// checkBegin holds Begin against the words.
func checkBegin(t *testing.T, proto, flags int) {
	t.Helper()
	if got, want := conn.Begin(proto, flags), toldBegin(proto, flags); got != want {
		t.Fatalf("Begin(%d, %d): %d, not %d", proto, flags, got, want)
	}
}

// checkNext holds Next against the words, and answers it.
func checkNext(t *testing.T, state, flags int) int {
	t.Helper()
	got, want := conn.Next(state, flags), toldNext(state, flags)
	if got != want {
		t.Fatalf("Next(%d, %d): %d, not %d", state, flags, got, want)
	}
	return got
}

// checkRun holds Run against the words, and answers it.
func checkRun(t *testing.T, state int, l []int) int {
	t.Helper()
	got, want := conn.Run(state, l), toldRun(state, l)
	if got != want {
		t.Fatalf("Run(%d, %d): %d, not %d", state, l, got, want)
	}
	return got
}

// checkStale holds Stale against the words, and answers it.
func checkStale(t *testing.T, state, seen, now int, idle [6]int) bool {
	t.Helper()
	got, want := conn.Stale(state, seen, now, idle), toldStale(state, seen, now, idle)
	if got != want {
		t.Fatalf("Stale(%d, %d, %d, %d): %t, not %t", state, seen, now, idle, got, want)
	}
	return got
}

// chance are numbers that look like such by chance, but are the same each time.
type chance uint64

func (c *chance) next() uint64 {
	*c = *c*6364136223846793005 + 1442695040888963407
	n := uint64(*c)
	return (n ^ n>>33) * 0xff51afd7ed558ccd >> 16
}

// below is a number from 0 to n - 1.
func (c *chance) below(n int) int { return int(c.next() % uint64(n)) }

// of is one of l.
func (c *chance) of(l []int) int { return l[c.below(len(l))] }

// state is one, or seldom a number that is none.
func (c *chance) state() int {
	if c.below(6) == 0 {
		return c.of(strange())
	}
	return c.of(states())
}

// flags are any, at times with other bits beside them.
func (c *chance) flags() int {
	if c.below(3) == 0 {
		return c.below(64) | c.of(beside())
	}
	return c.below(64)
}

// row are so many flags, of which few, some or many have Rst among them.
func (c *chance) row(n int) []int {
	var l []int
	seldom := 1 + c.below(20)
	for range n {
		flags := c.flags()
		if c.below(seldom) > 0 {
			flags &^= api.Rst
		}
		l = append(l, flags)
	}
	return l
}

// tick is one of an edge, or an ordinary one.
func (c *chance) tick() int {
	switch c.below(3) {
	case 0:
		return c.of(ticks())
	case 1:
		return c.below(50)
	}
	return c.below(api.MaxTick + 1)
}
