package health_test

import (
	"math"
	"slices"
	"strconv"
	"testing"

	"wayleave/api"
	"wayleave/health"
)

// P19.2: known lists: the first of the name makes the step, each other stays.
func TestKnownSet(t *testing.T) {
	l := []api.Health{{Name: "m", Run: 1}, {Name: "b", Down: true}, {Name: "m", Down: true}}
	for i, x := range []struct {
		name       string
		well       bool
		rise, fall int
		at         int
		want       api.Health
		turned     bool
	}{
		{"m", false, 1, 2, 0, api.Health{Name: "m", Down: true}, true},
		{"m", false, 1, 3, 0, api.Health{Name: "m", Run: 2}, false},
		{"m", true, 1, 1, 0, api.Health{Name: "m"}, false},
		{"b", true, 1, 2, 1, api.Health{Name: "b"}, true},
		{"b", true, 2, 2, 1, api.Health{Name: "b", Down: true, Run: 1}, false},
		{"b", false, 1, 1, 1, api.Health{Name: "b", Down: true}, false},
	} {
		want := slices.Clone(l)
		want[x.at] = x.want
		if s, is, e := health.Set(l, x.name, x.well, x.rise, x.fall); !slices.Equal(s, want) || is != x.turned || e != api.OK {
			t.Error(i, tellAll(s), is, e)
		}
	}
}

// P19.2: a name that isn't there: l, false and ErrNone, by each result, also where it would turn one.
func TestSetNone(t *testing.T) {
	lists := [][]api.Health{nil, {}, {{Name: "m"}}, {{Name: "m", Down: true, Run: -3}}, {{Name: "m"}, {Name: "m", Down: true}, {Name: "mm", Run: 99}, {Name: "M"}}, {{Name: "x", Run: math.MinInt}, {Name: "y", Run: math.MaxInt}}}
	for _, l := range lists {
		for _, name := range []string{"", "q", "mmm", "n", "l", "m\x00", "\xff"} {
			for _, n := range []int{-1, 0, 1, 2, 100, 101} {
				for _, well := range []bool{false, true} {
					if s, is, e := health.Set(l, name, well, n, n); !slices.Equal(s, l) || is || e != api.ErrNone {
						t.Errorf("%s %q: %s %t %d", tellAll(l), name, tellAll(s), is, e)
					}
				}
			}
		}
	}
}

// P19.2: a name that is there twice or more, at each two places, of healths that are unlike one another.
func TestSetFirst(t *testing.T) {
	for i := range 6 {
		for j := i + 1; j < 7; j++ {
			l := make([]api.Health, 7)
			for at := range l {
				l[at] = api.Health{Name: "o" + strconv.Itoa(at), Down: at%2 == 0, Run: -at}
			}
			l[i], l[j] = api.Health{Name: "m", Run: 1}, api.Health{Name: "m", Down: true, Run: 1}
			for _, well := range []bool{false, true} {
				for n := range 4 {
					checkSet(t, l, "m", well, n, n)
				}
			}
			l[i], l[j] = l[j], l[i]
			for _, well := range []bool{false, true} {
				for n := range 4 {
					checkSet(t, l, "m", well, n, n)
				}
			}
		}
	}
}

// P19.2: a health at each place, of each small list.
func TestSetEachPlace(t *testing.T) {
	for n := 1; n < 8; n++ {
		for at := range n {
			var l []api.Health
			for i := range n {
				l = append(l, api.Health{Name: string(rune('g' - i)), Down: i%2 == at%2, Run: i})
			}
			for _, well := range []bool{false, true} {
				s, is, e := checkSet(t, l, l[at].Name, well, 1, 1)
				if e != api.OK || is != (well == l[at].Down) || s[at].Run != 0 || len(s) != n {
					t.Fatal(n, at, well, tellAll(s), is, e)
				}
			}
		}
	}
}

// P19.2: what Set does to the health is what Step does, at each edge of Run, rise and fall.
func TestSetIsStep(t *testing.T) {
	for _, run := range runs() {
		for _, rise := range numbers() {
			for _, fall := range numbers() {
				for _, well := range []bool{false, true} {
					for _, down := range []bool{false, true} {
						h := api.Health{Name: "m", Down: down, Run: run}
						want, turned := health.Step(h, well, rise, fall)
						s, is, e := health.Set([]api.Health{{Name: "a", Run: -1}, h}, "m", well, rise, fall)
						if len(s) != 2 || s[0] != (api.Health{Name: "a", Run: -1}) || s[1] != want || is != turned || e != api.OK {
							t.Fatal(tell(h), well, rise, fall, tellAll(s), is, e)
						}
					}
				}
			}
		}
	}
}

// P19.2: names of whatever bytes are found, each among all, and none in the place of another.
func TestSetOddNames(t *testing.T) {
	var l []api.Health
	for i, name := range odd() {
		l = append(l, api.Health{Name: name, Down: i%2 == 0, Run: i % 3})
	}
	for i, name := range odd() {
		for _, well := range []bool{false, true} {
			if _, _, e := checkSet(t, l, name, well, 2, 2); e != api.OK {
				t.Errorf("%q: %d", name, e)
			}
			if _, _, e := checkSet(t, slices.Delete(slices.Clone(l), i, i+1), name, well, 2, 2); e != api.ErrNone {
				t.Errorf("%q: %d", name, e)
			}
		}
	}
}

// P19.2: lists of any kind, the name being there once, twice, or not at all.
func TestAnySet(t *testing.T) {
	c := chance(200)
	count := map[api.Errno]int{}
	for range 40000 {
		_, _, e := checkSet(t, c.healths(c.below(9)), c.name(), c.below(2) == 0, c.number(), c.number())
		count[e]++
	}
	if count[api.OK] < 4000 || count[api.ErrNone] < 4000 {
		t.Error(count)
	}
}

// P19.2: many healths, each of which is set.
func TestSetMany(t *testing.T) {
	var l []api.Health
	for i := range 1024 {
		l = append(l, api.Health{Name: "n" + strconv.Itoa(i)})
	}
	for i := range l {
		s, is, e := health.Set(l, "n"+strconv.Itoa(i), false, 1, 1)
		if !is || e != api.OK || len(s) != 1024 || s[i] != (api.Health{Name: l[i].Name, Down: true}) {
			t.Fatal(i, is, e)
		}
		if d := health.Down(s); len(d) != i+1 || d[i] != l[i].Name {
			t.Fatal(i, len(d))
		}
		l = s
	}
}
