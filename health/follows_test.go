package health_test

import (
	"slices"
	"strconv"
	"testing"

	"wayleave/api"
	"wayleave/health"
)

// checkNew holds a new health behind results against what follows of their stretches.
func checkNew(t *testing.T, l []bool, rise, fall int) {
	t.Helper()
	want, turns := toldNew(l, rise, fall)
	if h, n := health.Run(api.Health{}, l, rise, fall); h != want || n != turns {
		t.Fatal(tellResults(l), rise, fall, tell(h), n, "not", tell(want), turns)
	}
}

// P19.3: a new health is Down just if the last stretch that was long enough was one of bad results: each text of up to 11.
func TestNewByStretches(t *testing.T) {
	for n := range 12 {
		for _, s := range every(n) {
			l := results(s)
			for rise := 0; rise < 5; rise++ {
				for fall := 0; fall < 5; fall++ {
					checkNew(t, l, rise, fall)
				}
			}
		}
	}
}

// P19.3: stretches of each length about rise and fall, also where these are beyond their ends.
func TestNewLongStretches(t *testing.T) {
	c := chance(193)
	for _, rise := range numbers() {
		for _, fall := range numbers() {
			for range 20 {
				var l []bool
				for i := range c.below(9) {
					n := []int{1, 2, 98, 99, 100, 101, 102, int(toldNumber(rise)), int(toldNumber(fall)), int(toldNumber(fall)) - 1, int(toldNumber(rise)) - 1}[c.below(11)]
					l = append(l, slices.Repeat([]bool{i%2 == c.below(2)}, n)...)
				}
				checkNew(t, l, rise, fall)
			}
		}
	}
	for range 5000 {
		checkNew(t, c.results(c.below(150)), c.number(), c.number())
	}
}

// P19.3: known ones: it counts which stretch was the last that was long enough, not which was longer or came last.
func TestKnownStretches(t *testing.T) {
	for _, x := range []struct {
		results    string
		rise, fall int
		down       bool
	}{
		{"", 1, 1, false},
		{"++", 3, 2, false},
		{"--", 3, 2, true},
		{"-+-+-", 3, 2, false},
		{"--++", 3, 2, true},
		{"--++-++-++", 3, 2, true},
		{"--+++", 3, 2, false},
		{"-----+++", 3, 2, false},
		{"+++--", 3, 2, true},
		{"+++++++++--", 3, 2, true},
		{"+++++-", 3, 2, false},
		{"--+++-", 3, 2, false},
		{"--+++-+-", 3, 2, false},
		{"--+++-+--", 3, 2, true},
		{"--+++--++", 3, 2, true},
	} {
		if h, _ := health.Run(api.Health{}, results(x.results), x.rise, x.fall); h.Down != x.down {
			t.Error(x.results, tell(h))
		}
	}
}

// checkGoes holds results in two goes against those in one, parted at each place.
func checkGoes(t *testing.T, h api.Health, l []bool, rise, fall int) {
	t.Helper()
	want, turns := health.Run(h, l, rise, fall)
	for at := range len(l) + 1 {
		one, n := health.Run(h, l[:at], rise, fall)
		two, m := health.Run(one, l[at:], rise, fall)
		if two != want || n+m != turns {
			t.Fatal(tell(h), tellResults(l[:at]), tellResults(l[at:]), rise, fall, tell(two), n, m)
		}
	}
}

// P19.3: results in two goes come to what they come to in one, parted at each place.
func TestTwoGoes(t *testing.T) {
	for n := range 8 {
		for _, s := range every(n) {
			for rise := 1; rise < 4; rise++ {
				for fall := 1; fall < 4; fall++ {
					checkGoes(t, api.Health{Name: "w"}, results(s), rise, fall)
					checkGoes(t, api.Health{Name: "w", Down: true, Run: 1}, results(s), rise, fall)
				}
			}
		}
	}
	c := chance(194)
	for range 1500 {
		checkGoes(t, c.health(), c.results(c.below(60)), c.number(), c.number())
	}
	checkGoes(t, api.Health{}, slices.Concat(slices.Repeat([]bool{false}, 130), slices.Repeat([]bool{true}, 130)), 100, 100)
}

// P19.3: the same in as many goes as there are results.
func TestManyGoes(t *testing.T) {
	c := chance(195)
	for range 1000 {
		first, l, rise, fall := c.health(), c.results(c.below(200)), c.number(), c.number()
		h, turns := first, 0
		for at := 0; at < len(l); {
			n := min(1+c.below(4), len(l)-at)
			next, m := health.Run(h, l[at:at+n], rise, fall)
			h, turns, at = next, turns+m, at+n
		}
		if want, n := health.Run(first, l, rise, fall); h != want || turns != n {
			t.Fatal(tell(first), tellResults(l), rise, fall, tell(h), turns)
		}
	}
}

// P19.3: healths that begin new and are set, result by result, are those behind their own results.
func TestListBehindResults(t *testing.T) {
	c := chance(196)
	for round := range 40 {
		rise, fall := c.number(), c.number()
		names, own := []string{}, map[string][]bool{}
		for i := range 1 + c.below(9) {
			names = append(names, "b"+strconv.Itoa(i))
		}
		l := checkSync(t, nil, names)
		for range 200 {
			name, well := names[c.below(len(names))], c.below(4) == 0
			l, _, _ = checkSet(t, l, name, well, rise, fall)
			own[name] = append(own[name], well)
		}
		for i, name := range names {
			want, _ := toldNew(own[name], rise, fall)
			if want.Name = name; l[i] != want {
				t.Fatal(round, tell(l[i]), tell(want))
			}
		}
		checkDown(t, l)
	}
}

// P19.3: the order in which results of unlike names come changes nothing.
func TestOrders(t *testing.T) {
	c := chance(197)
	for range 300 {
		a, b := c.results(12), c.results(12)
		l := checkSync(t, nil, []string{"b", "a"})
		want := slices.Clone(l)
		for i := range a {
			want, _, _ = health.Set(want, "a", a[i], 2, 3)
			want, _, _ = health.Set(want, "b", b[i], 2, 3)
		}
		got := l
		for i, j := 0, 0; i < len(a) || j < len(b); {
			if j == len(b) || i < len(a) && c.below(2) == 0 {
				got, _, _ = health.Set(got, "a", a[i], 2, 3)
				i++
			} else {
				got, _, _ = health.Set(got, "b", b[j], 2, 3)
				j++
			}
		}
		if !slices.Equal(got, want) {
			t.Fatal(tellAll(got), tellAll(want))
		}
	}
}
