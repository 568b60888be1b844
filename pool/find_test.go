package pool_test

import (
	"math"
	"slices"
	"strings"
	"testing"

	"wayleave/api"
	"wayleave/pool"
)

// P18.2: each name that is there, and such that aren't.
func TestFind(t *testing.T) {
	for _, p := range append(pools(), row(1023), row(1024)) {
		for _, want := range p.Backends {
			if b, ok := pool.Find(p, want.Name); !ok || !alikeBackends(b, want) {
				t.Fatal(tell(p), tellBackend(b), ok)
			}
			for _, name := range []string{want.Name + "x", want.Name[:len(want.Name)-1], want.Name + "\x00", strings.ToUpper(want.Name), " " + want.Name} {
				if b, ok := pool.Find(p, name); ok != (toldAt(p, name) >= 0) || !ok && !alikeBackends(b, api.Backend{}) {
					t.Fatalf("%s: %q: %s %v", tell(p), name, tellBackend(b), ok)
				}
			}
		}
		for _, name := range []string{"", "A", "\xff\xff", "\x00", "none", strings.Repeat("a", 25), strings.Repeat("z", 9999)} {
			if b, ok := pool.Find(p, name); ok || !alikeBackends(b, api.Backend{}) {
				t.Fatalf("%s: %q: %s %v", tell(p), name, tellBackend(b), ok)
			}
		}
	}
}

// P18.2: what is found is all that the backend has.
func TestFindAll(t *testing.T) {
	for _, x := range altered() {
		if !x.ok || x.b.Name != "m" {
			continue
		}
		for _, l := range [][]api.Backend{{x.b}, {x.b, other("n")}, {other("l"), x.b}, {backend("k"), other("l"), x.b, backend("n")}} {
			if b, ok := pool.Find(api.Pool{Backends: l}, "m"); !ok || !alikeBackends(b, x.b) {
				t.Fatal(x.what, tellBackend(b), ok)
			}
		}
	}
}

// P18.2: what is found behind each act.
func TestFindBehind(t *testing.T) {
	p := some(0, "a", "c")
	p, _ = checkDo(t, p, api.Op{Kind: api.OpAdd, Backend: other("b")})
	p, _ = checkDo(t, p, api.Op{Kind: api.OpBack, Name: "b"})
	p, _ = checkDo(t, p, api.Op{Kind: api.OpWeight, Name: "b", Weight: 9.5})
	want := other("b")
	want.Drain, want.Weight = false, 9.5
	if b, ok := pool.Find(p, "b"); !ok || !alikeBackends(b, want) {
		t.Error(tellBackend(b), ok)
	}
	p, _ = checkDo(t, p, api.Op{Kind: api.OpRemove, Name: "b"})
	if b, ok := pool.Find(p, "b"); ok || !alikeBackends(b, api.Backend{}) {
		t.Error(tellBackend(b), ok)
	}
}

// checkShares holds the shares against the words.
func checkShares(t *testing.T, p api.Pool, down []string) []api.Share {
	t.Helper()
	l := pool.Shares(p, down)
	if len(l) != len(p.Backends) {
		t.Fatal(tell(p), down, len(l))
	}
	for i, b := range p.Backends {
		// A quantum is a part of 1024 of a weight of 1; what is less than one is none.
		quanta := int(math.Floor(b.Weight * 1024))
		if b.Drain || slices.Contains(down, b.Name) {
			quanta = 0
		}
		if l[i] != (api.Share{Name: b.Name, Quanta: quanta}) {
			t.Fatal(tell(p), down, i, l[i], quanta)
		}
	}
	return l
}

// P18.2: shares that are known.
func TestShares(t *testing.T) {
	p := some(1, "a", "b", "c", "d", "e", "f", "g")
	for i, f := range []float64{1, 0, 2.5, 1000, 1.0 / 1024, math.Nextafter(1.0/1024, 0), math.Nextafter(1000, 0)} {
		p.Backends[i].Weight = f
	}
	p.Backends[2].Drain = true
	for _, x := range []struct {
		down string
		want []int
	}{
		{"-", []int{1024, 0, 0, 1024000, 1, 0, 1023999}},
		{"a", []int{0, 0, 0, 1024000, 1, 0, 1023999}},
		{"a a", []int{0, 0, 0, 1024000, 1, 0, 1023999}},
		{"g d d g", []int{1024, 0, 0, 0, 1, 0, 0}},
		{"b c f", []int{1024, 0, 0, 1024000, 1, 0, 1023999}},
		{"a b c d e f g", []int{0, 0, 0, 0, 0, 0, 0}},
		{"g f e d c b a", []int{0, 0, 0, 0, 0, 0, 0}},
		{"A aa a. q", []int{1024, 0, 0, 1024000, 1, 0, 1023999}},
		{"e  q", []int{1024, 0, 0, 1024000, 0, 0, 1023999}},
	} {
		l := checkShares(t, p, strings.Split(x.down, " "))
		for i, s := range l {
			if s.Name != string(rune('a'+i)) || s.Quanta != x.want[i] {
				t.Error(x.down, i, s)
			}
		}
	}
}

// P18.2: names that are told down: none, each alone, all of them, twice, in other orders, without bytes, and such that aren't there.
func TestSharesDown(t *testing.T) {
	c := chance(185)
	for _, p := range append(pools(), row(1024)) {
		var all []string
		for _, b := range p.Backends {
			all = append(all, b.Name)
		}
		back := slices.Clone(all)
		slices.Reverse(back)
		for _, down := range [][]string{nil, {}, {""}, {"none"}, {"", "", "\xff"}, all, back, slices.Concat(all, all), slices.Concat(back, []string{"", "none"}, all)} {
			checkShares(t, p, down)
		}
		for _, n := range all[:min(len(all), 50)] {
			for _, down := range [][]string{{n}, {n, n}, {"", n}, {n, ""}, {n + "x"}, {n[1:]}, {n[:len(n)-1], "none", n, n}} {
				checkShares(t, p, down)
			}
		}
		for range 50 {
			var down []string
			for range c.below(2 * (len(all) + 1)) {
				if down = append(down, c.name()); len(all) > 0 {
					down = append(down, all[c.below(len(all))])
				}
			}
			checkShares(t, p, down)
		}
	}
	if l := pool.Shares(api.Pool{}, []string{"a"}); len(l) != 0 {
		t.Error(l)
	}
}

// P18.2: each weight, of a backend that is drained, down, both or neither.
func TestSharesWeights(t *testing.T) {
	c := chance(186)
	weights := rightWeights()
	for q := range 3000 {
		f := float64(q) / 1024
		weights = append(weights, f, math.Nextafter(f, 1000), math.Abs(math.Nextafter(f, 0)), float64(c.below(1024001))/1024, float64(c.next()%1000000)/999.9999)
	}
	for _, f := range weights {
		p := some(0, "a", "b")
		p.Backends[1].Weight = min(f, 1000)
		for _, drain := range []bool{false, true} {
			p.Backends[1].Drain = drain
			checkShares(t, p, nil)
			checkShares(t, p, []string{"a"})
			checkShares(t, p, []string{"b"})
		}
	}
}
