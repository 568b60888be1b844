package pool_test

import (
	"math"
	"slices"
	"strconv"
	"strings"
	"testing"

	"wayleave/api"
	"wayleave/pool"
)

// alter is a backend, what was done to it, and whether it is right.
type alter struct {
	what string
	b    api.Backend
	ok   bool
}

// altered are backends that differ from a right one in one field.
func altered() []alter {
	var l []alter
	put := func(what string, ok bool, change func(b *api.Backend)) {
		b := backend("m")
		change(&b)
		l = append(l, alter{what, b, ok})
	}
	put("as it is", true, func(b *api.Backend) {})
	put("drained", true, func(b *api.Backend) { b.Drain = true })
	put("no mac", true, func(b *api.Backend) { b.Mac = [6]byte{} })
	put("full mac", true, func(b *api.Backend) { b.Mac = [6]byte{255, 255, 255, 255, 255, 255} })
	put("address 0", true, func(b *api.Backend) { b.Addr = api.Addr{} })
	put("full address", true, func(b *api.Backend) { b.Addr = api.Addr{B: [16]byte{255, 255, 255, 255}} })
	put("of IPv6, 0", true, func(b *api.Backend) { b.Addr = api.Addr{Six: true} })
	put("of IPv6, full", true, func(b *api.Backend) {
		b.Addr = api.Addr{Six: true, B: [16]byte(slices.Repeat([]byte{255}, 16))}
	})
	for i := range 16 {
		at := strconv.Itoa(i)
		put("byte "+at, i < 4, func(b *api.Backend) { b.Addr.B[i] = 1 })
		put("byte, full "+at, i < 4, func(b *api.Backend) { b.Addr.B[i] = 255 })
		put("byte, high "+at, i < 4, func(b *api.Backend) { b.Addr.B[i] = 128 })
		put("byte, of IPv6 "+at, true, func(b *api.Backend) { b.Addr.Six, b.Addr.B[i] = true, 7 })
	}
	for name, ok := range map[string]bool{"": false, "a": true, "M": false, "\xff": false, strings.Repeat("m", 24): true, strings.Repeat("m", 25): false} {
		put("name "+name, ok, func(b *api.Backend) { b.Name = name })
	}
	for port, ok := range map[int]bool{math.MinInt: false, -65535: false, -80: false, -1: false, 0: false, 1: true, 2: true, 65534: true, 65535: true, 65536: false, 65616: false, 1 << 32: false, 1<<32 + 80: false, math.MaxInt: false} {
		put("port "+strconv.Itoa(port), ok, func(b *api.Backend) { b.Port = port })
	}
	for i, f := range rightWeights() {
		put("weight "+strconv.Itoa(i), true, func(b *api.Backend) { b.Weight = f })
	}
	for i, f := range wrongWeights() {
		put("wrong weight "+strconv.Itoa(i), false, func(b *api.Backend) { b.Weight = f })
	}
	put("weight -0", false, func(b *api.Backend) { b.Weight = minus() })
	return l
}

// P18.1: backends of all kinds, by themselves, first, in the middle and last.
func TestRightBackends(t *testing.T) {
	for _, x := range altered() {
		if toldBackend(x.b) != x.ok {
			t.Error("the words:", x.what)
		}
		if pool.Right(api.Pool{Backends: []api.Backend{x.b}}) != x.ok {
			t.Error(x.what)
		}
		if x.b.Name != "m" {
			continue
		}
		for _, l := range [][]api.Backend{{x.b, backend("n"), backend("o")}, {backend("l"), x.b, backend("n")}, {backend("k"), backend("l"), x.b}} {
			if pool.Right(api.Pool{Version: 3, Backends: l}) != x.ok {
				t.Error(x.what)
			}
		}
	}
}

// P18.1: versions.
func TestRightVersions(t *testing.T) {
	for _, x := range []struct {
		version int
		ok      bool
	}{
		{math.MinInt, false}, {-last, false}, {-2, false}, {-1, false}, {0, true}, {1, true}, {2, true}, {1 << 32, true},
		{last - 1, true}, {last, true}, {last + 1, false}, {last + 2, false}, {2 * last, false}, {math.MaxInt, false},
	} {
		for _, names := range [][]string{nil, {"a"}, {"a", "b", "c"}} {
			if p := some(x.version, names...); pool.Right(p) != x.ok {
				t.Error(tell(p))
			}
		}
		// A wrong one isn't made right.
		if pool.Right(some(x.version, "b", "a")) || pool.Right(some(x.version, "A")) {
			t.Error(x.version)
		}
	}
}

// P18.1: how many backends there are.
func TestRightMany(t *testing.T) {
	for _, n := range []int{0, 1, 2, 40, 1023, 1024, 1025, 1026, 2048, 5000} {
		if p := row(n); pool.Right(p) != (n <= 1024) {
			t.Error(n)
		}
	}
	if !pool.Right(api.Pool{Backends: []api.Backend{}}) {
		t.Error("an empty list")
	}
	// The room behind the list's length doesn't count.
	p := row(1025)
	if p.Backends = p.Backends[:1024]; !pool.Right(p) {
		t.Error("room")
	}
}

// P18.1: names that rise, fall, or are there twice.
func TestRightOrders(t *testing.T) {
	for _, x := range []struct {
		names string
		ok    bool
	}{
		{"a b", true}, {"b a", false}, {"a a", false}, {"a b c", true}, {"a c b", false}, {"b a c", false}, {"c b a", false},
		{"a b a", false}, {"a b b", false}, {"a a b", false}, {"a b c b", false},
		{"a aa", true}, {"aa a", false}, {"a aa ab b", true}, {"a b aa", false}, {"ab abc abcd", true}, {"abc ab", false},
		{"- . 0 9 a z", true}, {". -", false}, {"0 .", false}, {"0 -", false}, {"a 9", false}, {"a -", false}, {"a- a. a0 aa", true}, {"a a- a.", true}, {"a- a", false},
		{"web-1 web-10 web-2", true}, {"web-1 web-2 web-10", false}, {"10 9", true}, {"9 10", false},
	} {
		if p := some(1, strings.Split(x.names, " ")...); pool.Right(p) != x.ok {
			t.Error(x.names)
		}
	}
}

// P18.1: two neighbours of a full pool that fall, or have one name, at each place.
func TestRightNeighbours(t *testing.T) {
	p := row(1024)
	for i := range 1023 {
		l := p.Backends
		l[i], l[i+1] = l[i+1], l[i]
		if pool.Right(p) {
			t.Fatal("falling at", i)
		}
		l[i], l[i+1] = l[i+1], l[i]
		was := l[i+1].Name
		l[i+1].Name = l[i].Name
		if pool.Right(p) {
			t.Fatal("twice at", i)
		}
		l[i+1].Name = was
	}
	for i := range 1024 {
		was := p.Backends[i]
		p.Backends[i].Port = 0
		if pool.Right(p) {
			t.Fatal("no port at", i)
		}
		p.Backends[i] = was
	}
	if !pool.Right(p) {
		t.Error("as it was")
	}
}

// P18.1: pools of all kinds, and any backends, against the words.
func TestRightByWords(t *testing.T) {
	for _, p := range pools() {
		if !toldRight(p) || !pool.Right(p) {
			t.Error(tell(p))
		}
	}
	c, right := chance(181), 0
	for range 20000 {
		p := api.Pool{Version: c.below(9) - 1}
		for range c.below(4) {
			p.Backends = append(p.Backends, c.backend())
		}
		if c.below(4) > 0 {
			slices.SortFunc(p.Backends, func(a, b api.Backend) int { return strings.Compare(a.Name, b.Name) })
		}
		if pool.Right(p) != toldRight(p) {
			t.Fatal(tell(p), pool.Right(p))
		}
		if toldRight(p) {
			right++
		}
	}
	if right < 2000 || right > 18000 {
		t.Error(right)
	}
}
