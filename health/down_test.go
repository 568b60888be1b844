package health_test

import (
	"slices"
	"strconv"
	"testing"

	"wayleave/api"
	"wayleave/health"
)

// P19.2: known lists, of which all are Down, none, and some; a Run tells nothing of that.
func TestKnownDown(t *testing.T) {
	for i, x := range []struct {
		l    []api.Health
		want []string
	}{
		{nil, nil},
		{[]api.Health{}, nil},
		{[]api.Health{{Name: "a"}}, nil},
		{[]api.Health{{Name: "a", Run: 99}, {Name: "b", Run: -1}}, nil},
		{[]api.Health{{Name: "a", Down: true}}, []string{"a"}},
		{[]api.Health{{Down: true}}, []string{""}},
		{[]api.Health{{Name: "a", Down: true, Run: 99}, {Name: "b", Down: true, Run: -1}}, []string{"a", "b"}},
		{[]api.Health{{Name: "m", Run: 1}, {Name: "b", Down: true}, {Name: "m", Down: true}}, []string{"b", "m"}},
		{[]api.Health{{Name: "z", Down: true}, {Name: "a", Down: true}}, []string{"z", "a"}},
		{[]api.Health{{Name: "m", Down: true}, {Name: "m"}, {Name: "m", Down: true}}, []string{"m", "m"}},
	} {
		if got := health.Down(x.l); !slices.Equal(got, x.want) {
			t.Errorf("%d: %q", i, got)
		}
	}
}

// P19.2: each choice of which are Down, of up to nine, whose names rise, fall, or are one.
func TestEachDown(t *testing.T) {
	for n := range 10 {
		for choice := range 1 << n {
			for _, way := range []int{1, -1, 0} {
				var l []api.Health
				var want []string
				for i := range n {
					h := api.Health{Name: strconv.Itoa(50 + way*i), Down: choice>>i&1 == 1, Run: i - 3}
					if l = append(l, h); h.Down {
						want = append(want, h.Name)
					}
				}
				if got := health.Down(l); !slices.Equal(got, want) {
					t.Fatalf("%s: %q", tellAll(l), got)
				}
			}
		}
	}
}

// P19.2: names of whatever bytes, and many of any kind.
func TestAnyDown(t *testing.T) {
	var l []api.Health
	for i, name := range odd() {
		l = append(l, api.Health{Name: name, Down: i%3 != 1})
	}
	checkDown(t, l)
	slices.Reverse(l)
	checkDown(t, l)
	c := chance(201)
	for range 3000 {
		checkDown(t, c.healths(c.below(30)))
	}
	checkDown(t, c.healths(5000))
}
