package pool_test

import (
	"math"
	"slices"
	"testing"

	"wayleave/api"
	"wayleave/pool"
)

// checkSame holds Same against what is asked, both ways round.
func checkSame(t *testing.T, a, b api.Pool, want bool) {
	t.Helper()
	if toldSame(a, b) != want {
		t.Errorf("the words: %s and %s: %v", tell(a), tell(b), !want)
	}
	if pool.Same(a, b) != want || pool.Same(b, a) != want {
		t.Errorf("%s and %s: not %v", tell(a), tell(b), want)
	}
}

// P18.1: each pool is the same as one of other memory, and as no other.
func TestSamePools(t *testing.T) {
	for i, a := range pools() {
		for j, b := range pools() {
			checkSame(t, a, cloned(b), i == j)
		}
	}
}

// P18.1: pools that differ in one field alone, of the first, a middle or the last backend.
func TestSameFields(t *testing.T) {
	changes := []func(b *api.Backend){
		func(b *api.Backend) { b.Name += "x" },
		func(b *api.Backend) { b.Name = "" },
		func(b *api.Backend) { b.Addr.Six = !b.Addr.Six },
		func(b *api.Backend) { b.Port++ },
		func(b *api.Backend) { b.Port = 0 },
		func(b *api.Backend) { b.Port += 65536 },
		func(b *api.Backend) { b.Port = -b.Port },
		func(b *api.Backend) { b.Weight = math.Nextafter(b.Weight, 2000) },
		func(b *api.Backend) { b.Weight = -b.Weight },
		func(b *api.Backend) { b.Weight = 0 },
		func(b *api.Backend) { b.Weight = math.NaN() },
		func(b *api.Backend) { b.Weight = math.Inf(1) },
		func(b *api.Backend) { b.Drain = !b.Drain },
	}
	for i := range 16 {
		changes = append(changes, func(b *api.Backend) { b.Addr.B[i] ^= 1 }, func(b *api.Backend) { b.Addr.B[i] ^= 128 })
	}
	for i := range 6 {
		changes = append(changes, func(b *api.Backend) { b.Mac[i] ^= 1 }, func(b *api.Backend) { b.Mac[i] ^= 128 })
	}
	for _, p := range []api.Pool{some(5, "a"), some(5, "a", "b", "c", "d"), {Backends: []api.Backend{other("a"), other("b"), other("c")}}} {
		for at := range p.Backends {
			for _, change := range changes {
				q := cloned(p)
				change(&q.Backends[at])
				checkSame(t, p, q, false)
				checkSame(t, q, cloned(q), true)
			}
		}
	}
}

// P18.1: versions, of right pools and of others.
func TestSameVersions(t *testing.T) {
	all := []int{math.MinInt, -last, -1, 0, 1, 2, 1 << 32, last - 1, last, last + 1, math.MaxInt}
	for i, a := range all {
		for j, b := range all {
			checkSame(t, some(a), some(b), i == j)
			checkSame(t, some(a, "a", "b"), some(b, "a", "b"), i == j)
		}
	}
}

// P18.1: each two weights, those that aren't right too: 0 and -0 are two, and all NaN are one.
func TestSameWeights(t *testing.T) {
	all := append(append(rightWeights(), minus()), wrongWeights()...)
	for i, f := range all {
		for j, g := range all {
			a, b := some(1, "a", "b", "c"), some(1, "a", "b", "c")
			a.Backends[1].Weight, b.Backends[1].Weight = f, g
			checkSame(t, a, b, i == j || f != f && g != g)
			// Where the weights are the same, the other fields still count.
			b.Backends[1].Port++
			checkSame(t, a, b, false)
			b.Backends[1].Port--
			b.Backends[1].Drain = true
			checkSame(t, a, b, false)
		}
	}
	a, b := some(1, "a"), some(1, "a")
	a.Backends[0].Weight, b.Backends[0].Weight = math.Float64frombits(0x7ff0000000000001), math.Float64frombits(0xfff8000000000007)
	checkSame(t, a, b, true)
}

// P18.1: other orders, fewer and more backends, and pools that aren't right.
func TestSameOrders(t *testing.T) {
	p := some(1, "a", "b", "c")
	for at := range 2 {
		q := cloned(p)
		q.Backends[at], q.Backends[at+1] = q.Backends[at+1], q.Backends[at]
		checkSame(t, p, q, false)
		checkSame(t, q, cloned(q), true)
	}
	for n := range 4 {
		checkSame(t, p, api.Pool{Version: 1, Backends: p.Backends[:n]}, n == 3)
		checkSame(t, p, api.Pool{Version: 1, Backends: p.Backends[3-n:]}, n == 3)
	}
	twice := api.Pool{Version: 1, Backends: slices.Concat(p.Backends, p.Backends)}
	checkSame(t, p, twice, false)
	checkSame(t, twice, cloned(twice), true)
	checkSame(t, row(1024), row(1024), true)
	checkSame(t, row(3000), row(3000), true)
	long, longer := row(3000), row(3000)
	longer.Backends[2999].Mac[5]++
	checkSame(t, long, longer, false)
}

// P18.1: nil and empty lists are one, and room behind the length doesn't count.
func TestSameRoom(t *testing.T) {
	checkSame(t, api.Pool{Version: 2}, api.Pool{Version: 2, Backends: []api.Backend{}}, true)
	checkSame(t, api.Pool{Version: 2}, api.Pool{Version: 2, Backends: make([]api.Backend, 0, 9)}, true)
	checkSame(t, api.Pool{Version: 2}, api.Pool{Version: 2, Backends: make([]api.Backend, 1)}, false)
	p := some(2, "a", "b", "c", "d")
	checkSame(t, some(2, "a", "b"), api.Pool{Version: 2, Backends: p.Backends[:2]}, true)
}

// P18.1: any two pools, against the words.
func TestSameByWords(t *testing.T) {
	c, same := chance(182), 0
	for range 20000 {
		a := api.Pool{Version: c.below(2)}
		for range c.below(4) {
			a.Backends = append(a.Backends, c.backend())
		}
		b := cloned(a)
		if n := len(b.Backends); n > 0 && c.below(2) == 0 {
			b.Backends[c.below(n)] = c.backend()
		} else if c.below(4) == 0 {
			b.Version ^= 1
		}
		checkSame(t, a, b, toldSame(a, b))
		if toldSame(a, b) {
			same++
		}
	}
	if same < 3000 || same > 17000 {
		t.Error(same)
	}
}
