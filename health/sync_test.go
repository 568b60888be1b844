package health_test

import (
	"math"
	"slices"
	"strconv"
	"testing"

	"wayleave/api"
	"wayleave/health"
)

// P19.2: known healths, and names that stand there more than once, that fall, that no health has, and that many have.
func TestKnownSync(t *testing.T) {
	l := []api.Health{{Name: "m", Run: 1}, {Name: "b", Down: true}, {Name: "m", Down: true, Run: 7}, {Name: "z", Run: 2}}
	for i, x := range []struct {
		names []string
		want  []api.Health
	}{
		{nil, nil},
		{[]string{}, nil},
		{[]string{"m"}, []api.Health{{Name: "m", Run: 1}}},
		{[]string{"b"}, []api.Health{{Name: "b", Down: true}}},
		{[]string{"q"}, []api.Health{{Name: "q"}}},
		{[]string{""}, []api.Health{{}}},
		{[]string{"b", "m", "z"}, []api.Health{{Name: "b", Down: true}, {Name: "m", Run: 1}, {Name: "z", Run: 2}}},
		{[]string{"z", "m", "b"}, []api.Health{{Name: "b", Down: true}, {Name: "m", Run: 1}, {Name: "z", Run: 2}}},
		{[]string{"z", "m", "a", "m", "B"}, []api.Health{{Name: "B"}, {Name: "a"}, {Name: "m", Run: 1}, {Name: "z", Run: 2}}},
		{[]string{"m", "m", "m"}, []api.Health{{Name: "m", Run: 1}}},
		{[]string{"q", "m", "q", "m"}, []api.Health{{Name: "m", Run: 1}, {Name: "q"}}},
		{[]string{"mm", "m", "", "bb"}, []api.Health{{}, {Name: "bb"}, {Name: "m", Run: 1}, {Name: "mm"}}},
	} {
		if got := health.Sync(l, x.names); !slices.Equal(got, x.want) {
			t.Error(i, tellAll(got))
		}
	}
}

// P19.2: no health at all: each is a new one.
func TestSyncOfNone(t *testing.T) {
	for _, l := range [][]api.Health{nil, {}} {
		if s := health.Sync(l, nil); len(s) != 0 {
			t.Error(tellAll(s))
		}
		if s := health.Sync(l, []string{"b", "", "a", "b"}); !slices.Equal(s, []api.Health{{}, {Name: "a"}, {Name: "b"}}) {
			t.Error(tellAll(s))
		}
	}
}

// P19.2: a health is as it is, whatever its Run is, and however it stands to its Down.
func TestSyncKeeps(t *testing.T) {
	for _, run := range runs() {
		for _, down := range []bool{false, true} {
			l := []api.Health{{Name: "b", Down: down, Run: run}, {Name: "a", Down: !down, Run: run}}
			if s := health.Sync(l, []string{"a", "b"}); !slices.Equal(s, []api.Health{l[1], l[0]}) {
				t.Error(tellAll(l), tellAll(s))
			}
		}
	}
}

// P19.2: of more of one name, which are unlike one another, the first, at whatever places they stand.
func TestSyncFirst(t *testing.T) {
	for i := range 6 {
		for j := i + 1; j < 6; j++ {
			for k := j + 1; k < 7; k++ {
				l := make([]api.Health, 7)
				for at := range l {
					l[at] = api.Health{Name: "o" + strconv.Itoa(at), Run: at}
				}
				l[i] = api.Health{Name: "m", Run: 11}
				l[j] = api.Health{Name: "m", Down: true, Run: 12}
				l[k] = api.Health{Name: "m"}
				if s := checkSync(t, l, []string{"m"}); s[0] != l[i] {
					t.Fatal(i, j, k, tellAll(s))
				}
				l[i] = api.Health{Name: "m"}
				l[j] = api.Health{Name: "m", Down: true}
				if s := checkSync(t, l, []string{"x", "m"}); s[0] != l[i] {
					t.Fatal(i, j, k, tellAll(s))
				}
			}
		}
	}
}

// P19.2: names of whatever bytes rise byte by byte, each pair in both orders.
func TestSyncRises(t *testing.T) {
	var l []api.Health
	for i, name := range odd() {
		l = append(l, api.Health{Name: name, Down: i%3 == 0, Run: i})
	}
	for i, a := range odd() {
		for j, b := range odd() {
			want := []api.Health{l[i], l[j]}
			if lower(b, a) {
				want = []api.Health{l[j], l[i]}
			}
			if i == j {
				want = want[:1]
			}
			if s := health.Sync(l, []string{a, b}); !slices.Equal(s, want) {
				t.Fatalf("%q %q: %s", a, b, tellAll(s))
			}
			if s := health.Sync(l[:i], []string{a, b, a}); len(s) != len(want) || s[0].Name != want[0].Name {
				t.Fatalf("%q %q: %s", a, b, tellAll(s))
			}
		}
	}
	s := checkSync(t, l, odd())
	for i := range s[1:] {
		if !lower(s[i].Name, s[i+1].Name) {
			t.Error(i, tell(s[i]), tell(s[i+1]))
		}
	}
	if len(s) != len(odd()) {
		t.Error(len(s))
	}
}

// P19.2: each order of a few names, with and without healths, comes to the same.
func TestSyncOrders(t *testing.T) {
	l := []api.Health{{Name: "c", Run: 3}, {Name: "a", Down: true, Run: 1}, {Name: "e"}}
	names := []string{"a", "b", "c", "d", "c"}
	want := []api.Health{{Name: "a", Down: true, Run: 1}, {Name: "b"}, {Name: "c", Run: 3}, {Name: "d"}}
	var orders func(at int)
	orders = func(at int) {
		if at == len(names) {
			if s := health.Sync(l, names); !slices.Equal(s, want) {
				t.Fatalf("%q: %s", names, tellAll(s))
			}
			return
		}
		for i := at; i < len(names); i++ {
			names[at], names[i] = names[i], names[at]
			orders(at + 1)
			names[at], names[i] = names[i], names[at]
		}
	}
	orders(0)
}

// P19.2: many healths, and many names, each there once or more.
func TestSyncMany(t *testing.T) {
	const many = 3000
	c := chance(198)
	var l []api.Health
	var names []string
	for i := range many {
		l = append(l, api.Health{Name: "n" + strconv.Itoa(i*7%many), Down: i%2 == 0, Run: i})
		names = append(names, "n"+strconv.Itoa(c.below(2*many)))
	}
	first := map[string]api.Health{}
	for _, h := range l {
		first[h.Name] = h
	}
	want := slices.Clone(names)
	slices.Sort(want)
	want = slices.Compact(want)
	s := health.Sync(append(l, l[5:500]...), append(names, names[:700]...))
	if len(s) != len(want) {
		t.Fatal(len(s), len(want))
	}
	for i, name := range want {
		h, ok := first[name]
		if !ok {
			h = api.Health{Name: name}
		}
		if s[i] != h {
			t.Fatal(i, tell(s[i]), tell(h))
		}
	}
}

// P19.2: lists and names of any kind; synced once more, nothing is another one.
func TestAnySync(t *testing.T) {
	c := chance(199)
	for range 20000 {
		l, names := c.healths(c.below(9)), c.names(c.below(9))
		s := checkSync(t, l, names)
		slices.Reverse(names)
		if again := health.Sync(s, names); !slices.Equal(again, s) {
			t.Fatal(tellAll(s), tellAll(again))
		}
	}
}

// P19.2: healths that no name asks for are gone, and new when their names are back.
func TestSyncForgets(t *testing.T) {
	l := []api.Health{{Name: "a", Down: true, Run: 4}, {Name: "b", Run: math.MaxInt}}
	l = checkSync(t, l, []string{"b"})
	if s := checkSync(t, l, []string{"a", "b"}); s[0] != (api.Health{Name: "a"}) || s[1].Run != math.MaxInt {
		t.Error(tellAll(s))
	}
}
