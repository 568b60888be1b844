package health_test

import (
	"slices"
	"strings"
	"testing"

	"wayleave/api"
	"wayleave/health"
)

// P19.1: the chapter's example.
func TestExample(t *testing.T) {
	if h, n := health.Run(api.Health{}, results("--+--"), 2, 3); h != (api.Health{Run: 2}) || n != 0 {
		t.Error(tell(h), n)
	}
	if h, n := health.Run(api.Health{}, results("--+---"), 2, 3); h != (api.Health{Down: true}) || n != 1 {
		t.Error(tell(h), n)
	}
}

// P19.1: known runs, of new healths and of others.
func TestKnownRuns(t *testing.T) {
	bad, good := strings.Repeat("-", 99), strings.Repeat("+", 99)
	for i, x := range []struct {
		h          api.Health
		results    string
		rise, fall int
		want       api.Health
		turns      int
	}{
		{api.Health{}, "", 2, 3, api.Health{}, 0},
		{api.Health{}, "+", 2, 3, api.Health{}, 0},
		{api.Health{}, "-", 2, 3, api.Health{Run: 1}, 0},
		{api.Health{}, "---", 2, 3, api.Health{Down: true}, 1},
		{api.Health{}, "----", 2, 3, api.Health{Down: true}, 1},
		{api.Health{}, "---+", 2, 3, api.Health{Down: true, Run: 1}, 1},
		{api.Health{}, "---+-+", 2, 3, api.Health{Down: true, Run: 1}, 1},
		{api.Health{}, "---++", 2, 3, api.Health{}, 2},
		{api.Health{}, "---+++", 2, 3, api.Health{}, 2},
		{api.Health{}, "---++--", 2, 3, api.Health{Run: 2}, 2},
		{api.Health{}, "---++---", 2, 3, api.Health{Down: true}, 3},
		{api.Health{}, "-+-+-+", 2, 3, api.Health{}, 0},
		{api.Health{}, "-+-+-", 1, 1, api.Health{Down: true}, 5},
		{api.Health{}, "+-+-+", 1, 1, api.Health{}, 4},
		{api.Health{}, bad, 1, 100, api.Health{Run: 99}, 0},
		{api.Health{}, bad + "-", 1, 100, api.Health{Down: true}, 1},
		{api.Health{}, bad + "-", 1, 101, api.Health{Down: true}, 1},
		{api.Health{}, bad + "-" + good, 100, 100, api.Health{Down: true, Run: 99}, 1},
		{api.Health{}, bad + "-" + good + "+", 101, 100, api.Health{}, 2},
		{api.Health{}, bad + "+" + bad, 1, 100, api.Health{Run: 99}, 0},
		{api.Health{Name: "w", Run: 2}, "-", 2, 3, api.Health{Name: "w", Down: true}, 1},
		{api.Health{Name: "w", Run: 2}, "+-", 2, 3, api.Health{Name: "w", Run: 1}, 0},
		{api.Health{Name: "w", Down: true, Run: 1}, "+", 2, 3, api.Health{Name: "w"}, 1},
		{api.Health{Name: "w", Down: true, Run: 1}, "-+", 2, 3, api.Health{Name: "w", Down: true, Run: 1}, 0},
		{api.Health{Name: "w", Down: true}, "", 2, 3, api.Health{Name: "w", Down: true}, 0},
		{api.Health{Name: "w", Down: true, Run: 50}, "", 2, 3, api.Health{Name: "w", Down: true, Run: 50}, 0},
	} {
		if h, n := health.Run(x.h, results(x.results), x.rise, x.fall); h != x.want || n != x.turns {
			t.Error(i, tell(h), n)
		}
	}
}

// P19.1: without results a health is as it was, whatever it is.
func TestNoResults(t *testing.T) {
	for _, run := range runs() {
		for _, n := range numbers() {
			for _, h := range []api.Health{{Run: run}, {Name: "w", Down: true, Run: run}} {
				if g, turns := health.Run(h, nil, n, n); g != h || turns != 0 {
					t.Error(tell(h), tell(g), turns)
				}
				if g, turns := health.Run(h, []bool{}, n, n); g != h || turns != 0 {
					t.Error(tell(h), tell(g), turns)
				}
			}
		}
	}
}

// P19.1: one result is a step.
func TestOneResult(t *testing.T) {
	for _, run := range runs() {
		for _, n := range numbers() {
			for _, m := range numbers() {
				for _, h := range []api.Health{{Run: run}, {Name: "w", Down: true, Run: run}} {
					checkRun(t, h, []bool{false}, n, m)
					checkRun(t, h, []bool{true}, n, m)
				}
			}
		}
	}
}

// P19.1: each text of up to 9 results, from each small health, by each small rise and fall.
func TestEachText(t *testing.T) {
	for n := range 10 {
		for _, s := range every(n) {
			l := results(s)
			for rise := 1; rise < 4; rise++ {
				for fall := 1; fall < 4; fall++ {
					checkRun(t, api.Health{Name: "w"}, l, rise, fall)
					checkRun(t, api.Health{Down: true}, l, rise, fall)
					checkRun(t, api.Health{Run: 1}, l, rise, fall)
					checkRun(t, api.Health{Down: true, Run: 2}, l, rise, fall)
				}
			}
		}
	}
}

// P19.1: many results, all good, all bad, and by turns, with rise and fall at each edge.
func TestManyResults(t *testing.T) {
	const many = 350
	good := slices.Repeat([]bool{true}, many)
	bad := slices.Repeat([]bool{false}, many)
	turns := slices.Repeat([]bool{false, true}, many)
	for _, rise := range numbers() {
		for _, fall := range numbers() {
			for _, h := range []api.Health{{}, {Name: "w", Down: true, Run: 3}, {Run: -4}} {
				checkRun(t, h, good, rise, fall)
				checkRun(t, h, bad, rise, fall)
				checkRun(t, h, turns, rise, fall)
				checkRun(t, h, slices.Concat(bad, good, bad, good), rise, fall)
			}
			if h, n := health.Run(api.Health{}, slices.Concat(bad, good, bad, good, bad), rise, fall); !h.Down || n != 5 || h.Run != 0 {
				t.Error(rise, fall, tell(h), n)
			}
		}
	}
}

// P19.1: stretches of just one less than is needed turn nothing, how many there may be; of just as many each turns.
func TestStretches(t *testing.T) {
	for n := 2; n <= 100; n++ {
		short := slices.Concat(slices.Repeat([]bool{false}, n-1), []bool{true})
		if h, turns := health.Run(api.Health{}, slices.Repeat(short, 20), 1, n); h != (api.Health{}) || turns != 0 {
			t.Error(n, tell(h), turns)
		}
		back := slices.Concat(slices.Repeat([]bool{true}, n-1), []bool{false})
		if h, turns := health.Run(api.Health{Down: true}, slices.Repeat(back, 20), n, 1); h != (api.Health{Down: true}) || turns != 0 {
			t.Error(n, tell(h), turns)
		}
		both := slices.Concat(slices.Repeat([]bool{false}, n), slices.Repeat([]bool{true}, n+1))
		if h, turns := health.Run(api.Health{}, slices.Repeat(both, 20), n+1, n); n < 100 && (h != (api.Health{}) || turns != 40) {
			t.Error(n, tell(h), turns)
		}
	}
}

// P19.1: how many turned is what the steps tell, one by one.
func TestTurnsOfSteps(t *testing.T) {
	c := chance(192)
	for range 3000 {
		h, l, rise, fall := c.health(), c.results(c.below(120)), c.number(), c.number()
		want, turns := h, 0
		for _, well := range l {
			was := want.Down
			next, is := health.Step(want, well, rise, fall)
			if is != (next.Down != was) {
				t.Fatal(tell(want), well, rise, fall)
			}
			if want = next; is {
				turns++
			}
		}
		if got, n := checkRun(t, h, l, rise, fall); got != want || n != turns {
			t.Fatal(tell(h), tellResults(l), tell(got), n)
		}
	}
}
