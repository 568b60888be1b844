package pool_test

import (
	"slices"
	"strconv"
	"strings"
	"testing"

	"wayleave/api"
	"wayleave/pool"
)

// checkFollows does something, holds the pool behind it against what follows, and answers it.
func checkFollows(t *testing.T, p api.Pool, op api.Op) (api.Pool, bool) {
	t.Helper()
	q, e := checkDo(t, p, op)
	if !pool.Right(q) || !toldRight(q) {
		t.Fatalf("%s to %s: %s", tellOp(op), tell(p), tell(q))
	}
	if e != api.OK {
		if !pool.Same(p, q) {
			t.Fatalf("%s to %s: %d, %s", tellOp(op), tell(p), e, tell(q))
		}
		return q, false
	}
	if pool.Same(p, q) || q.Version != p.Version+1 {
		t.Fatalf("%s to %s: %s", tellOp(op), tell(p), tell(q))
	}
	return q, true
}

// P18.3: any acts, one after the other, on pools that begin as one of all kinds.
func TestFollows(t *testing.T) {
	c := chance(187)
	for _, p := range pools() {
		began, done := p.Version, 0
		for range 3000 {
			op := c.op()
			if n := len(p.Backends); n > 0 && c.below(3) == 0 {
				op.Name = p.Backends[c.below(n)].Name
			}
			q, ok := checkFollows(t, p, op)
			if ok {
				done++
			}
			if p = q; p.Version != began+done {
				t.Fatal(tell(p), began, done)
			}
		}
		if done < 800 && began < last-1 {
			t.Error(tell(p), done)
		}
	}
}

// P18.3: a pool from none to full, in any order, and back to none: the version counts each act.
func TestFullAndBack(t *testing.T) {
	c := chance(188)
	var order []string
	for i := range 1024 {
		order = append(order, "b"+strconv.Itoa(i))
	}
	for i := range order {
		j := c.below(i + 1)
		order[i], order[j] = order[j], order[i]
	}
	p := api.Pool{}
	for i, n := range order {
		b := backend(n)
		b.Port += i
		q, e := pool.Do(p, api.Op{Kind: api.OpAdd, Backend: b})
		if p = q; e != api.OK || p.Version != i+1 || len(p.Backends) != i+1 || !pool.Right(p) {
			t.Fatal(i, n, e)
		}
		if _, e := pool.Do(p, api.Op{Kind: api.OpAdd, Backend: b}); e != api.ErrTwice {
			t.Fatal(i, n, e)
		}
	}
	if _, e := pool.Do(p, api.Op{Kind: api.OpAdd, Backend: backend("z")}); e != api.ErrFull {
		t.Error(e)
	}
	sorted := slices.Sorted(slices.Values(order))
	for i, n := range sorted {
		b := p.Backends[i]
		if b.Name != n || b.Port != 80+slices.Index(order, n) {
			t.Fatal(i, tellBackend(b))
		}
	}
	slices.Reverse(order)
	for i, n := range order {
		q, e := pool.Do(p, api.Op{Kind: api.OpRemove, Name: n})
		if p = q; e != api.OK || p.Version != 1025+i || len(p.Backends) != 1023-i || !pool.Right(p) {
			t.Fatal(i, n, e)
		}
	}
	if len(p.Backends) != 0 || p.Version != 2048 {
		t.Error(tell(p))
	}
}

// P18.3: acts near the last version: so many are done as there are versions left.
func TestToTheLast(t *testing.T) {
	c := chance(189)
	for left := range 6 {
		p := some(last-left, "a", "b")
		done := 0
		for range 300 {
			q, ok := checkFollows(t, p, c.op())
			if p = q; ok {
				done++
			}
		}
		if done != left || p.Version != last {
			t.Error(left, done, tell(p))
		}
	}
}

// P18.3: what comes of acts doesn't hang on the order, where they are of unlike names, but for the places in between.
func TestOrders(t *testing.T) {
	acts := []api.Op{
		{Kind: api.OpAdd, Backend: backend("x")}, {Kind: api.OpAdd, Backend: other("ab")}, {Kind: api.OpDrain, Name: "a"},
		{Kind: api.OpRemove, Name: "b"}, {Kind: api.OpWeight, Name: "c", Weight: 7},
	}
	want, n := "", 0
	var orders func(at int)
	orders = func(at int) {
		if at < len(acts) {
			for i := at; i < len(acts); i++ {
				acts[at], acts[i] = acts[i], acts[at]
				orders(at + 1)
				acts[at], acts[i] = acts[i], acts[at]
			}
			return
		}
		p := some(10, "a", "b", "c")
		for _, op := range acts {
			p, _ = checkFollows(t, p, op)
		}
		got := tell(p)
		if n++; n == 1 {
			want = got
		}
		if got != want || strings.Count(got, "drained") != 2 {
			t.Fatal(got, want)
		}
	}
	if orders(0); n != 120 {
		t.Error(n)
	}
}

// P18.3: what a call answers hangs on its arguments alone, whatever was asked ahead of it.
func TestAgain(t *testing.T) {
	c := chance(190)
	for range 300 {
		p, op, down := pools()[c.below(12)], c.op(), []string{c.name(), c.name()}
		one, e := pool.Do(p, op)
		l := pool.Shares(p, down)
		for range 5 {
			pool.Do(pools()[c.below(12)], c.op())
			pool.Shares(some(3, "a", "b"), []string{c.name()})
		}
		two, f := pool.Do(p, op)
		if e != f || !toldSame(one, two) || !slices.Equal(l, pool.Shares(p, down)) {
			t.Fatal(tell(p), tellOp(op))
		}
	}
}
