package health_test

import (
	"math"
	"testing"

	"wayleave/api"
	"wayleave/health"
)

// P19.1: known steps, by each result, of each kind of health.
func TestKnownSteps(t *testing.T) {
	for i, x := range []struct {
		down, well      bool
		run, rise, fall int
		want            api.Health
		turned          bool
	}{
		{false, true, 0, 2, 3, api.Health{}, false},
		{false, true, 2, 2, 3, api.Health{}, false},
		{false, true, 2, 1, 1, api.Health{}, false},
		{false, false, 0, 2, 3, api.Health{Run: 1}, false},
		{false, false, 1, 2, 3, api.Health{Run: 2}, false},
		{false, false, 2, 2, 3, api.Health{Down: true}, true},
		{false, false, 3, 2, 3, api.Health{Down: true}, true},
		{true, false, 0, 2, 3, api.Health{Down: true}, false},
		{true, false, 1, 2, 3, api.Health{Down: true}, false},
		{true, false, 7, 1, 1, api.Health{Down: true}, false},
		{true, true, 0, 2, 3, api.Health{Down: true, Run: 1}, false},
		{true, true, 1, 2, 3, api.Health{}, true},
		{true, true, 2, 2, 3, api.Health{}, true},
		{false, false, 0, 100, 1, api.Health{Down: true}, true},
		{true, true, 0, 1, 100, api.Health{}, true},
		{false, false, 98, 1, 100, api.Health{Run: 99}, false},
		{false, false, 99, 1, 100, api.Health{Down: true}, true},
		{true, true, 98, 100, 1, api.Health{Down: true, Run: 99}, false},
		{true, true, 99, 100, 1, api.Health{}, true},
	} {
		h, is := health.Step(api.Health{Down: x.down, Run: x.run}, x.well, x.rise, x.fall)
		if h != x.want || is != x.turned {
			t.Error(i, tell(h), is)
		}
	}
}

// P19.1: each kind of health, with a Run at each edge, by each result, with rise and fall at each edge, each apart from the other.
func TestEdges(t *testing.T) {
	for _, run := range runs() {
		for _, rise := range numbers() {
			for _, fall := range numbers() {
				for _, down := range []bool{false, true} {
					checkStep(t, api.Health{Down: down, Run: run}, false, rise, fall)
					checkStep(t, api.Health{Down: down, Run: run}, true, rise, fall)
				}
			}
		}
	}
}

// P19.1: each rise and each fall, with each Run from none to more than it, the other number being the least or the greatest.
func TestEachNumber(t *testing.T) {
	for n := -3; n <= 104; n++ {
		for run := -3; run <= 106; run++ {
			for _, other := range []int{1, 100} {
				h := api.Health{Name: "n", Run: run}
				down := api.Health{Name: "n", Run: run, Down: true}
				checkStep(t, h, false, other, n)
				checkStep(t, h, true, other, n)
				checkStep(t, down, true, n, other)
				checkStep(t, down, false, n, other)
			}
		}
	}
}

// P19.1: one less than rise and fall isn't enough, just as many are; less than 1 is as 1, more than 100 as 100.
func TestJustEnough(t *testing.T) {
	for _, n := range numbers() {
		need := min(max(n, 1), 100)
		for _, x := range []struct {
			run  int
			turn bool
		}{{need - 2, false}, {need - 1, true}, {need, true}, {need + 1, true}, {math.MaxInt, true}} {
			if x.run < 0 {
				continue // a Run below 0 is as 0
			}
			want := api.Health{Name: "w", Down: true}
			if !x.turn {
				want = api.Health{Name: "w", Run: x.run + 1}
			}
			if h, is := health.Step(api.Health{Name: "w", Run: x.run}, false, 7, n); h != want || is != x.turn {
				t.Error("fall", n, x.run, tell(h), is)
			}
			want.Down = !want.Down
			if h, is := health.Step(api.Health{Name: "w", Run: x.run, Down: true}, true, n, 7); h != want || is != x.turn {
				t.Error("rise", n, x.run, tell(h), is)
			}
		}
	}
}

// P19.1: a Run below 0 is as one of 0.
func TestRunBelow(t *testing.T) {
	for _, run := range []int{-1, -2, -99, -100, -101, math.MinInt + 1, math.MinInt} {
		for _, n := range numbers() {
			for _, down := range []bool{false, true} {
				for _, well := range []bool{false, true} {
					a, one := health.Step(api.Health{Name: "r", Down: down, Run: run}, well, n, n)
					b, two := health.Step(api.Health{Name: "r", Down: down}, well, n, n)
					if a != b || one != two {
						t.Error(run, n, down, well, tell(a), tell(b))
					}
				}
			}
		}
	}
}

// P19.1: what comes of a bad result to one that isn't Down doesn't hang on rise, nor what comes of a good one to one that is Down on fall, nor anything else on either.
func TestOneNumberOnly(t *testing.T) {
	for _, n := range numbers() {
		for _, run := range runs() {
			h, is := health.Step(api.Health{Run: run}, false, 1, n)
			down, was := health.Step(api.Health{Run: run, Down: true}, true, n, 1)
			for _, other := range numbers() {
				if g, its := health.Step(api.Health{Run: run}, false, other, n); g != h || its != is {
					t.Error("fall", n, run, other, tell(g))
				}
				if g, its := health.Step(api.Health{Run: run, Down: true}, true, n, other); g != down || its != was {
					t.Error("rise", n, run, other, tell(g))
				}
				if g, its := health.Step(api.Health{Run: run}, true, n, other); g != (api.Health{}) || its {
					t.Error("good", n, run, other, tell(g))
				}
				if g, its := health.Step(api.Health{Run: run, Down: true}, false, n, other); g != (api.Health{Down: true}) || its {
					t.Error("bad", n, run, other, tell(g))
				}
			}
		}
	}
}

// P19.1: the name stays, whatever its bytes are, and changes nothing else.
func TestNameStays(t *testing.T) {
	for _, name := range odd() {
		for _, down := range []bool{false, true} {
			for _, well := range []bool{false, true} {
				for _, run := range []int{-1, 0, 1, 2, 3} {
					h := api.Health{Name: name, Down: down, Run: run}
					checkStep(t, h, well, 2, 3)
					got, is := health.Step(h, well, 2, 3)
					bare, its := health.Step(api.Health{Down: down, Run: run}, well, 2, 3)
					if bare.Name = name; got != bare || is != its {
						t.Error(tell(got), tell(bare))
					}
				}
			}
		}
	}
}

// P19.1: healths, results and numbers of any kind.
func TestAnyStep(t *testing.T) {
	c := chance(191)
	for range 200000 {
		checkStep(t, c.health(), c.below(2) == 0, c.number(), c.number())
	}
}
