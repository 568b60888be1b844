package pool_test

import (
	"math"
	"slices"
	"testing"

	"wayleave/api"
	"wayleave/pool"
)

// spoil writes into all that a pool has, the room behind its list's length included.
func spoil(p api.Pool) {
	for i := range p.Backends[:cap(p.Backends)] {
		p.Backends[:cap(p.Backends)][i] = api.Backend{Name: "spoilt", Port: -7, Weight: -7, Drain: i%2 == 0, Addr: api.Addr{B: [16]byte{15: 9}}}
	}
}

// acts are of each kind, for pools that have a and not q: those that are done, and those that end in each error.
func acts() []api.Op {
	wrong := backend("q")
	wrong.Port = 0
	l := []api.Op{{}, {Kind: 6, Name: "a"}, {Kind: -1, Name: "a"}, {Kind: api.OpAdd, Backend: wrong}, {Kind: api.OpWeight, Name: "a", Weight: math.NaN()}}
	for _, name := range []string{"a", "q", "-", "z", "n10000", "n10001", "b", "m"} {
		l = append(l, api.Op{Kind: api.OpAdd, Backend: backend(name)}, api.Op{Kind: api.OpAdd, Backend: other(name)}, api.Op{Kind: api.OpWeight, Name: name, Weight: 2})
		l = append(l, api.Op{Kind: api.OpRemove, Name: name}, api.Op{Kind: api.OpDrain, Name: name}, api.Op{Kind: api.OpBack, Name: name})
	}
	return l
}

// roomy is the pool, with so much room behind its list, in which something stands.
func roomy(p api.Pool, room int) (api.Pool, []api.Backend) {
	l := slices.Clone(p.Backends)
	for range room {
		l = append(l, other("room"))
	}
	return api.Pool{Version: p.Version, Backends: l[:len(p.Backends)]}, l
}

// alikeLists tells whether two lists have the same backends.
func alikeLists(a, b []api.Backend) bool { return slices.EqualFunc(a, b, alikeBackends) }

// P18.4: the pool stays, with the room behind its list's length, whether something is done or not.
func TestPoolStays(t *testing.T) {
	for _, p := range append(pools(), row(1023), row(1024)) {
		for _, op := range acts() {
			for _, room := range []int{0, 1, 3} {
				q, l := roomy(p, room)
				was := slices.Clone(l)
				pool.Do(q, op)
				pool.Find(q, op.Name)
				pool.Right(q)
				pool.Same(q, p)
				pool.Shares(q, []string{op.Name})
				if !alikeLists(l, was) || q.Version != p.Version {
					t.Fatal(tell(p), tellOp(op), room)
				}
			}
		}
	}
}

// P18.4: what is written into the pool that Do answers, with an error too, doesn't show in the one that was handed in, nor the other way round.
func TestDoApart(t *testing.T) {
	for _, p := range append(pools(), row(1023), row(1024)) {
		for _, op := range acts() {
			in, l := roomy(p, 2)
			was := slices.Clone(l)
			want, _ := toldDo(p, op)
			one, _ := pool.Do(in, op)
			two, _ := pool.Do(in, op)
			if spoil(one); !alikeLists(l, was) || !toldSame(two, want) {
				t.Fatal("the answer:", tell(p), tellOp(op))
			}
			if spoil(in); !toldSame(two, want) {
				t.Fatal("what was handed in:", tell(p), tellOp(op))
			}
			copy(l, was)
			if three, _ := pool.Do(in, op); !toldSame(three, want) {
				t.Fatal("again:", tell(p), tellOp(op))
			}
		}
	}
}

// P18.4: pools of a row of acts share no memory, each with each other.
func TestRowApart(t *testing.T) {
	p := some(0, "a", "m")
	all, was := []api.Pool{p}, []api.Pool{cloned(p)}
	for _, op := range append(acts(), acts()...) {
		p, _ = pool.Do(p, op)
		all, was = append(all, p), append(was, cloned(p))
	}
	for i := range all {
		for j := range all {
			if j >= i && !toldSame(all[j], was[j]) {
				t.Fatal(i, j, tell(all[j]))
			}
		}
		spoil(all[i])
	}
}

// P18.4: what is put into the room behind an answer's list shows in no other.
func TestRoomBehind(t *testing.T) {
	p := some(0, "a", "m", "z")
	for _, op := range acts() {
		q, _ := pool.Do(p, op)
		was := cloned(q)
		_ = append(q.Backends, other("one"))
		one, _ := pool.Do(q, api.Op{Kind: api.OpAdd, Backend: backend("zz")})
		two, _ := pool.Do(q, api.Op{Kind: api.OpAdd, Backend: backend("zzz")})
		if !toldSame(q, was) || toldAt(one, "zz") < 0 || toldAt(one, "zzz") >= 0 || toldAt(two, "zzz") < 0 || toldAt(two, "zz") >= 0 {
			t.Fatal(tellOp(op), tell(one), tell(two))
		}
	}
}

// P18.4: the shares are new memory, and what is told down stays, with the room behind its length.
func TestSharesApart(t *testing.T) {
	for _, p := range append(pools(), row(1024)) {
		room := []string{"m", "a", "m", "", "room", "a"}
		was := slices.Clone(room)
		one, two := pool.Shares(p, room[:4]), pool.Shares(p, room[:4])
		want := slices.Clone(two)
		for i := range one[:cap(one)] {
			one[:cap(one)][i] = api.Share{Name: "spoilt", Quanta: -7}
		}
		if !slices.Equal(two, want) || !slices.Equal(room, was) || !slices.Equal(pool.Shares(p, room[:4]), want) {
			t.Fatal(tell(p))
		}
		copy(room, []string{"x", "x", "x", "x"})
		in := cloned(p)
		three := pool.Shares(in, was[:4])
		if spoil(in); !slices.Equal(three, want) || !slices.Equal(two, want) {
			t.Fatal(tell(p))
		}
	}
}

// P18.4: what is found is the caller's own, and stays, when the pool's list is written into.
func TestFindApart(t *testing.T) {
	p := api.Pool{Backends: []api.Backend{backend("a"), other("m")}}
	b, _ := pool.Find(p, "m")
	b.Mac[0], b.Addr.B[0], b.Port = 99, 99, 99
	if c, ok := pool.Find(p, "m"); !ok || !alikeBackends(c, other("m")) {
		t.Error(tellBackend(c))
	}
	c, _ := pool.Find(p, "m")
	if spoil(p); !alikeBackends(c, other("m")) {
		t.Error(tellBackend(c))
	}
}

// P18.4: names whose bytes are in memory that is used again.
func TestNamesNotKept(t *testing.T) {
	bytes := []byte("web")
	p, _ := pool.Do(api.Pool{}, api.Op{Kind: api.OpAdd, Backend: backend(string(bytes))})
	copy(bytes, "top")
	p, _ = pool.Do(p, api.Op{Kind: api.OpAdd, Backend: backend(string(bytes))})
	if names(p) != "top web" {
		t.Error(tell(p))
	}
}
