package pool_test

import (
	"math"
	"slices"
	"strconv"
	"strings"
	"testing"

	"wayleave/api"
	"wayleave/pool"
)

// checkErr does something to a right pool, and holds its error against the one that is asked.
func checkErr(t *testing.T, p api.Pool, op api.Op, want api.Errno) api.Pool {
	t.Helper()
	q, e := checkDo(t, p, op)
	if e != want {
		t.Fatalf("%s to %s: %d, not %d", tellOp(op), tell(p), e, want)
	}
	return q
}

// names are a pool's, each with ! behind it, if it is drained.
func names(p api.Pool) string {
	var l []string
	for _, b := range p.Backends {
		if n := b.Name; b.Drain {
			l = append(l, n+"!")
		} else {
			l = append(l, n)
		}
	}
	return strings.Join(l, " ")
}

// P18.2: the chapter's example.
func TestExample(t *testing.T) {
	op := api.Op{Kind: api.OpAdd, Backend: backend("a")}
	one, e := pool.Do(api.Pool{}, op)
	if one.Version != 1 || e != api.OK || names(one) != "a" {
		t.Error(tell(one), e)
	}
	two, e := pool.Do(one, op)
	if two.Version != 1 || e != api.ErrTwice || names(two) != "a" {
		t.Error(tell(two), e)
	}
}

// P18.2: one act behind the other, each with what is known to come of it.
func TestActs(t *testing.T) {
	p := api.Pool{}
	for i, x := range []struct {
		op    api.Op
		err   api.Errno
		names string
	}{
		{api.Op{Kind: api.OpRemove, Name: "a"}, 5, ""},
		{api.Op{Kind: api.OpAdd, Backend: backend("m")}, 0, "m"},
		{api.Op{Kind: api.OpAdd, Backend: backend("a")}, 0, "a m"},
		{api.Op{Kind: api.OpAdd, Backend: other("z")}, 0, "a m z!"},
		{api.Op{Kind: api.OpAdd, Backend: backend("mm")}, 0, "a m mm z!"},
		{api.Op{Kind: api.OpAdd, Backend: backend("a.")}, 0, "a a. m mm z!"},
		{api.Op{Kind: api.OpAdd, Backend: backend("a-")}, 0, "a a- a. m mm z!"},
		{api.Op{Kind: api.OpAdd, Backend: other("z")}, 6, "a a- a. m mm z!"},
		{api.Op{Kind: api.OpDrain, Name: "z"}, 6, "a a- a. m mm z!"},
		{api.Op{Kind: api.OpBack, Name: "z"}, 0, "a a- a. m mm z"},
		{api.Op{Kind: api.OpBack, Name: "z"}, 6, "a a- a. m mm z"},
		{api.Op{Kind: api.OpDrain, Name: "a"}, 0, "a! a- a. m mm z"},
		{api.Op{Kind: api.OpDrain, Name: "mm"}, 0, "a! a- a. m mm! z"},
		{api.Op{Kind: api.OpDrain, Name: "mmm"}, 5, "a! a- a. m mm! z"},
		{api.Op{Kind: api.OpWeight, Name: "a", Weight: 4}, 0, "a! a- a. m mm! z"},
		{api.Op{Kind: api.OpWeight, Name: "a", Weight: 4}, 0, "a! a- a. m mm! z"},
		{api.Op{Kind: api.OpWeight, Name: "A", Weight: 4}, 5, "a! a- a. m mm! z"},
		{api.Op{Kind: api.OpWeight, Name: "a", Weight: -4}, 1, "a! a- a. m mm! z"},
		{api.Op{Kind: api.OpRemove, Name: "a"}, 0, "a- a. m mm! z"},
		{api.Op{Kind: api.OpRemove, Name: "a"}, 5, "a- a. m mm! z"},
		{api.Op{Kind: api.OpRemove, Name: "mm"}, 0, "a- a. m z"},
		{api.Op{Kind: api.OpRemove, Name: "z"}, 0, "a- a. m"},
		{api.Op{Kind: api.OpAdd, Backend: backend("a")}, 0, "a a- a. m"},
		{api.Op{}, 1, "a a- a. m"},
	} {
		q := checkErr(t, p, x.op, x.err)
		want := p.Version
		if x.err == api.OK {
			want++
		}
		if names(q) != x.names || q.Version != want || !pool.Right(q) {
			t.Fatal(i, tell(q))
		}
		p = q
	}
	if p.Version != 15 {
		t.Error(p.Version)
	}
}

// P18.2: a backend is put in at each place of pools of many lengths, with all that it has.
func TestAddPlaces(t *testing.T) {
	for n := range 30 {
		all := row(n + 1)
		for at := range n + 1 {
			b := all.Backends[at]
			b.Drain, b.Weight, b.Mac[2], b.Port = at%3 == 0, float64(at)+0.25, byte(at), 1+at*1000
			p := api.Pool{Version: 100, Backends: slices.Delete(slices.Clone(all.Backends), at, at+1)}
			q := checkErr(t, p, api.Op{Kind: api.OpAdd, Backend: b}, api.OK)
			if !alikeBackends(q.Backends[at], b) || len(q.Backends) != n+1 || q.Version != 101 {
				t.Fatal(n, at, tell(q))
			}
			checkErr(t, q, api.Op{Kind: api.OpAdd, Backend: b}, api.ErrTwice)
			checkErr(t, q, api.Op{Kind: api.OpAdd, Backend: backend(b.Name)}, api.ErrTwice)
		}
	}
}

// P18.2: names that begin others, or that others begin.
func TestAddBeginnings(t *testing.T) {
	p := some(0, "ab", "abcd")
	for _, x := range []struct{ name, names string }{
		{"a", "a ab abcd"}, {"abc", "ab abc abcd"}, {"abcde", "ab abcd abcde"}, {"ab-", "ab ab- abcd"}, {"ab.", "ab ab. abcd"}, {"ab0", "ab ab0 abcd"}, {"aba", "ab aba abcd"}, {"abd", "ab abcd abd"}, {"b", "ab abcd b"}, {"-", "- ab abcd"},
	} {
		if q := checkErr(t, p, api.Op{Kind: api.OpAdd, Backend: backend(x.name)}, api.OK); names(q) != x.names {
			t.Error(x.name, names(q))
		}
	}
}

// P18.2: backends with one field altered: those that are right, and a weight of -0, are put in.
func TestAddBackends(t *testing.T) {
	for _, p := range []api.Pool{{}, some(3, "a"), some(3, "a", "z"), some(3, "z")} {
		for _, x := range altered() {
			want := api.OK
			if !x.ok && x.what != "weight -0" {
				want = api.ErrArg
			}
			q, e := checkDo(t, p, api.Op{Kind: api.OpAdd, Backend: x.b})
			if e != want && !(e == api.ErrTwice && x.b.Name == "a" && toldAt(p, "a") >= 0) {
				t.Error(x.what, e)
			}
			if !pool.Right(q) {
				t.Error(x.what, tell(q))
			}
		}
	}
}

// P18.2: a weight of -0 becomes 0, put in, and given.
func TestMinus(t *testing.T) {
	b := other("m")
	b.Weight = minus()
	p := checkErr(t, some(1, "a", "z"), api.Op{Kind: api.OpAdd, Backend: b}, api.OK)
	if f := p.Backends[1].Weight; math.Float64bits(f) != 0 {
		t.Error(math.Float64bits(f))
	}
	b.Weight = 0
	if !alikeBackends(p.Backends[1], b) {
		t.Error(tell(p))
	}
	for at, name := range []string{"a", "m", "z"} {
		q := checkErr(t, p, api.Op{Kind: api.OpWeight, Name: name, Weight: minus()}, api.OK)
		if f := q.Backends[at].Weight; math.Float64bits(f) != 0 || q.Version != 3 {
			t.Error(name, tell(q))
		}
	}
	// Of what is left unused it changes nothing.
	q := checkErr(t, p, api.Op{Kind: api.OpDrain, Name: "a", Weight: minus()}, api.OK)
	if q.Backends[0].Weight != 1 {
		t.Error(tell(q))
	}
}

// P18.2: each weight, of backends at each place, drained or not; one that it has already is given again.
func TestWeights(t *testing.T) {
	for _, p := range pools() {
		for at, b := range p.Backends {
			for _, f := range append(rightWeights(), minus(), b.Weight) {
				op := api.Op{Kind: api.OpWeight, Name: b.Name, Weight: f}
				if p.Version == last {
					checkErr(t, p, op, api.ErrFull)
					continue
				}
				q := checkErr(t, p, op, api.OK)
				want := b
				want.Weight = math.Abs(f)
				if !alikeBackends(q.Backends[at], want) || q.Version != p.Version+1 {
					t.Fatal(tellOp(op), tell(q))
				}
			}
			for _, f := range wrongWeights() {
				checkErr(t, p, api.Op{Kind: api.OpWeight, Name: b.Name, Weight: f}, api.ErrArg)
				checkErr(t, p, api.Op{Kind: api.OpWeight, Name: b.Name + "x", Weight: f}, api.ErrArg)
			}
			checkErr(t, p, api.Op{Kind: api.OpWeight, Name: b.Name + "x", Weight: 1}, api.ErrNone)
		}
	}
}

// P18.2: each backend of pools of many lengths goes, is drained, and comes back; the others stay.
func TestEachBackend(t *testing.T) {
	for n := 1; n < 30; n++ {
		p := row(n)
		for at, b := range p.Backends {
			q := checkErr(t, p, api.Op{Kind: api.OpRemove, Name: b.Name}, api.OK)
			if len(q.Backends) != n-1 || toldAt(q, b.Name) >= 0 || q.Version != n+1 {
				t.Fatal(n, at, tell(q))
			}
			checkErr(t, q, api.Op{Kind: api.OpRemove, Name: b.Name}, api.ErrNone)
			once, again := api.OpDrain, api.OpBack
			if b.Drain {
				once, again = again, once
			}
			checkErr(t, p, api.Op{Kind: again, Name: b.Name}, api.ErrTwice)
			q = checkErr(t, p, api.Op{Kind: once, Name: b.Name}, api.OK)
			want := b
			want.Drain = !b.Drain
			if !alikeBackends(q.Backends[at], want) || q.Version != n+1 {
				t.Fatal(n, at, tell(q))
			}
			checkErr(t, q, api.Op{Kind: once, Name: b.Name}, api.ErrTwice)
			q = checkErr(t, q, api.Op{Kind: again, Name: b.Name}, api.OK)
			if !alikeBackends(q.Backends[at], b) || q.Version != n+2 {
				t.Fatal(n, at, tell(q))
			}
		}
	}
}

// P18.2: names that aren't there, right ones and others.
func TestNone(t *testing.T) {
	for _, name := range []string{"", "a", "m", "l", "n", "mm", "zz", "A", "m ", "M", "\x00", "\xff", "k\xff", strings.Repeat("m", 25), strings.Repeat("z", 1000)} {
		for _, kind := range []int{api.OpRemove, api.OpWeight, api.OpDrain, api.OpBack} {
			for _, p := range []api.Pool{{}, {Version: last}, some(2, "k", "o"), some(2, "z"), some(0, "b", "mmm", "z"), some(last, "b", "mmm")} {
				checkErr(t, p, api.Op{Kind: kind, Name: name, Weight: 2, Backend: backend("b")}, api.ErrNone)
			}
		}
	}
}

// P18.2: kinds that there aren't, with all filled in.
func TestKinds(t *testing.T) {
	for _, p := range []api.Pool{{}, {Version: last}, some(2, "a", "m"), some(last, "a", "m"), row(1024)} {
		for _, kind := range []int{math.MinInt, -1 << 32, -256, -6, -5, -4, -3, -2, -1, 0, 6, 7, 8, 9, 10, 255, 256, 257, 261, 1 << 32, 1<<32 + 1, math.MaxInt} {
			for _, name := range []string{"a", "m", "q", "", "n10000"} {
				checkErr(t, p, api.Op{Kind: kind, Name: name, Backend: backend("x"), Weight: 1}, api.ErrArg)
				checkErr(t, p, api.Op{Kind: kind, Name: name}, api.ErrArg)
				checkErr(t, p, api.Op{Kind: kind, Name: name, Backend: backend("a"), Weight: -1}, api.ErrArg)
			}
		}
	}
}

// P18.2: what a kind doesn't ask counts for nothing, whatever it is.
func TestBesides(t *testing.T) {
	var backends []api.Backend
	for _, x := range altered() {
		backends = append(backends, x.b)
	}
	backends = append(backends, api.Backend{}, backend("a"), backend("b"), other("c"))
	weights := append(append(rightWeights(), minus()), wrongWeights()...)
	all := []string{"", "a", "b", "c", "q", "A", "\xff", strings.Repeat("q", 25)}
	p := api.Pool{Version: 5, Backends: []api.Backend{backend("a"), other("b"), backend("c")}}
	for _, name := range all {
		for i, f := range weights {
			op := api.Op{Name: name, Weight: f, Backend: backends[i%len(backends)]}
			for kind := range 7 {
				op.Kind = kind
				checkDo(t, p, op)
			}
			op.Kind, op.Backend = api.OpAdd, other("m")
			checkErr(t, p, op, api.OK)
			if op.Backend = other("b"); toldAt(p, name) < 0 {
				checkErr(t, p, op, api.ErrTwice)
			}
		}
		for _, b := range backends {
			checkDo(t, p, api.Op{Kind: api.OpWeight, Name: name, Weight: 7, Backend: b})
			checkDo(t, p, api.Op{Kind: api.OpDrain, Name: name, Weight: -7, Backend: b})
			checkDo(t, p, api.Op{Kind: api.OpBack, Name: name, Weight: math.NaN(), Backend: b})
			checkDo(t, p, api.Op{Kind: api.OpRemove, Name: name, Weight: math.Inf(1), Backend: b})
		}
	}
}

// P18.2: a pool that gets full, and one that is.
func TestFull(t *testing.T) {
	add := api.Op{Kind: api.OpAdd, Backend: backend("n20000")}
	p := checkErr(t, row(1022), add, api.OK)
	add.Backend.Name = "a"
	p = checkErr(t, p, add, api.OK)
	if len(p.Backends) != 1024 || p.Version != 1024 || p.Backends[0].Name != "a" || p.Backends[1023].Name != "n20000" {
		t.Fatal(tell(p))
	}
	for _, name := range []string{"-", "b", "n10000.", "n10500x", "z", strings.Repeat("z", 24)} {
		add.Backend.Name = name
		checkErr(t, p, add, api.ErrFull)
	}
	for _, b := range p.Backends {
		checkErr(t, p, api.Op{Kind: api.OpAdd, Backend: b}, api.ErrTwice)
	}
	for at := 0; at < 1024; at += 31 {
		b := p.Backends[at]
		checkErr(t, p, api.Op{Kind: api.OpWeight, Name: b.Name, Weight: 12}, api.OK)
		if q, e := checkDo(t, p, api.Op{Kind: api.OpDrain, Name: b.Name}); e == api.OK {
			checkErr(t, q, api.Op{Kind: api.OpBack, Name: b.Name}, api.OK)
		}
		q := checkErr(t, p, api.Op{Kind: api.OpRemove, Name: b.Name}, api.OK)
		q = checkErr(t, q, api.Op{Kind: api.OpAdd, Backend: b}, api.OK)
		if q.Version != 1026 || len(q.Backends) != 1024 {
			t.Fatal(tell(q))
		}
		checkErr(t, q, add, api.ErrFull)
	}
}

// P18.2: which error holds, where more than one could.
func TestWhichError(t *testing.T) {
	full := row(1024)
	lastFull := row(1024)
	lastFull.Version = last
	few, lastFew := some(3, "a", "m"), some(last, "a", "m")
	wrong := func(name string, f float64) api.Backend {
		b := backend(name)
		b.Weight = f
		return b
	}
	port := func(name string, n int) api.Backend {
		b := backend(name)
		b.Port = n
		return b
	}
	for i, x := range []struct {
		p   api.Pool
		op  api.Op
		err api.Errno
	}{
		// Not right, and there; not right, and no room; there, and no room; all of them.
		{few, api.Op{Kind: api.OpAdd, Backend: wrong("a", -1)}, 1},
		{few, api.Op{Kind: api.OpAdd, Backend: wrong("a", minus())}, 6},
		{few, api.Op{Kind: api.OpAdd, Backend: port("m", 0)}, 1},
		{full, api.Op{Kind: api.OpAdd, Backend: wrong("q", math.NaN())}, 1},
		{full, api.Op{Kind: api.OpAdd, Backend: wrong("q", minus())}, 7},
		{full, api.Op{Kind: api.OpAdd, Backend: backend("Q")}, 1},
		{full, api.Op{Kind: api.OpAdd, Backend: backend("n10700")}, 6},
		{full, api.Op{Kind: api.OpAdd, Backend: port("n10700", 65536)}, 1},
		{full, api.Op{Kind: api.OpAdd, Backend: port("n1070", 65535)}, 7},
		// A wrong weight, and no such name.
		{few, api.Op{Kind: api.OpWeight, Name: "q", Weight: math.Inf(1)}, 1},
		{few, api.Op{Kind: api.OpWeight, Name: "q", Weight: 1000}, 5},
		{few, api.Op{Kind: api.OpWeight, Name: "a", Weight: math.Nextafter(1000, 1001)}, 1},
		// The last version comes behind each other error.
		{lastFew, api.Op{Kind: api.OpAdd, Backend: wrong("q", -1)}, 1},
		{lastFew, api.Op{Kind: api.OpAdd, Backend: backend("a")}, 6},
		{lastFew, api.Op{Kind: api.OpAdd, Backend: backend("q")}, 7},
		{lastFull, api.Op{Kind: api.OpAdd, Backend: backend("q")}, 7},
		{lastFull, api.Op{Kind: api.OpAdd, Backend: backend("n10000")}, 6},
		{lastFull, api.Op{Kind: api.OpAdd, Backend: port("n10000", -1)}, 1},
		{lastFew, api.Op{Kind: api.OpRemove, Name: "q"}, 5},
		{lastFew, api.Op{Kind: api.OpRemove, Name: "m"}, 7},
		{lastFew, api.Op{Kind: api.OpWeight, Name: "m", Weight: math.NaN()}, 1},
		{lastFew, api.Op{Kind: api.OpWeight, Name: "q", Weight: 1}, 5},
		{lastFew, api.Op{Kind: api.OpWeight, Name: "m", Weight: 1}, 7},
		{lastFew, api.Op{Kind: api.OpWeight, Name: "m", Weight: minus()}, 7},
		{lastFew, api.Op{Kind: api.OpDrain, Name: "q"}, 5},
		{lastFew, api.Op{Kind: api.OpDrain, Name: "m"}, 7},
		{lastFew, api.Op{Kind: api.OpBack, Name: "q"}, 5},
		{lastFew, api.Op{Kind: api.OpBack, Name: "m"}, 6},
		{lastFull, api.Op{Kind: api.OpDrain, Name: "n10001"}, 6},
		{lastFull, api.Op{Kind: api.OpBack, Name: "n10001"}, 7},
		{lastFew, api.Op{Kind: 0, Name: "m"}, 1},
		{lastFew, api.Op{Kind: 6, Name: "m"}, 1},
	} {
		if q, e := checkDo(t, x.p, x.op); e != x.err || e != api.OK && !pool.Same(q, x.p) {
			t.Error(i, tellOp(x.op), e, x.err)
		}
	}
}

// P18.2: the versions up to the last one.
func TestVersions(t *testing.T) {
	for _, v := range []int{0, 1, 1<<32 - 1, 1 << 32, last - 2, last - 1} {
		p := checkErr(t, some(v, "a"), api.Op{Kind: api.OpDrain, Name: "a"}, api.OK)
		if p.Version != v+1 {
			t.Error(v, p.Version)
		}
	}
	p := some(last-3, "a")
	for i := range 3 {
		p = checkErr(t, p, api.Op{Kind: api.OpAdd, Backend: backend("b" + strconv.Itoa(i))}, api.OK)
	}
	if p.Version != last || !pool.Right(p) {
		t.Error(tell(p))
	}
	for range 3 {
		p = checkErr(t, p, api.Op{Kind: api.OpAdd, Backend: backend("c")}, api.ErrFull)
	}
	if p.Version != last || names(p) != "a b0 b1 b2" {
		t.Error(tell(p))
	}
}

// P18.2: anything done to pools of all kinds, against the words.
func TestDoByWords(t *testing.T) {
	c, done := chance(183), 0
	for _, p := range pools() {
		for range 2000 {
			op := c.op()
			if n := len(p.Backends); n > 0 && c.below(2) == 0 {
				op.Name = p.Backends[c.below(n)].Name
				op.Backend.Name = p.Backends[c.below(n)].Name
			}
			if _, e := checkDo(t, p, op); e == api.OK {
				done++
			}
		}
	}
	if done < 3000 {
		t.Error(done)
	}
}

// P1: pools that aren't right, of which nothing is promised, bring no call to panic.
func TestWrongPools(t *testing.T) {
	c := chance(184)
	for range 20000 {
		p := api.Pool{Version: []int{math.MinInt, -1, 0, last, last + 1, math.MaxInt}[c.below(6)]}
		for range c.below(5) {
			p.Backends = append(p.Backends, c.backend())
		}
		pool.Do(p, c.op())
		pool.Find(p, c.name())
		pool.Shares(p, []string{c.name(), c.name()})
	}
	pool.Do(row(3000), api.Op{Kind: api.OpAdd, Backend: backend("q")})
}
