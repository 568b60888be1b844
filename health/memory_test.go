package health_test

import (
	"slices"
	"testing"

	"wayleave/api"
	"wayleave/health"
)

// spoil writes into all that a list has, the room behind its length included.
func spoil(l []api.Health) {
	l = l[:cap(l)]
	for i := range l {
		l[i] = api.Health{Name: "spoilt", Down: i%2 == 0, Run: -7}
	}
}

// spoilNames does the same to names.
func spoilNames(l []string) {
	l = l[:cap(l)]
	for i := range l {
		l[i] = "spoilt"
	}
}

// roomy is the list, with so much room behind it, in which something stands; and both together.
func roomy(l []api.Health, room int) ([]api.Health, []api.Health) {
	all := slices.Clone(l)
	for range room {
		all = append(all, api.Health{Name: "room", Down: true, Run: 5})
	}
	return all[:len(l)], all
}

// lists are of all kinds.
func lists() [][]api.Health {
	c := chance(202)
	l := [][]api.Health{
		nil, {},
		{{Name: "m"}},
		{{Name: "m", Down: true, Run: 1}},
		{{Name: "a", Run: 1}, {Name: "m", Run: 2}, {Name: "z", Down: true}},
		{{Name: "m", Run: 1}, {Name: "b", Down: true}, {Name: "m", Down: true}},
		{{Name: "z", Down: true}, {Name: "m", Down: true}, {Name: "a", Down: true}},
	}
	for n := range 30 {
		l = append(l, c.healths(n))
	}
	return l
}

// wanted are names of all kinds, of which some rise, and some are just those of healths.
func wanted() [][]string {
	return [][]string{nil, {}, {"m"}, {"q"}, {"a", "m", "z"}, {"z", "m", "a"}, {"m", "m"}, {"a", "b", "m", "q", "z"}, odd()}
}

// P19.4: what is handed in stays, with the room behind its length.
func TestStays(t *testing.T) {
	for _, l := range lists() {
		for _, names := range wanted() {
			for _, room := range []int{0, 1, 5} {
				in, all := roomy(l, room)
				was := slices.Clone(all)
				more := append(slices.Clone(names), []string{"room", "a", "room", "b", "c"}[:room]...)
				all2 := slices.Clone(more)
				health.Sync(in, more[:len(names)])
				health.Down(in)
				for _, name := range []string{"m", "q"} {
					health.Set(in, name, true, 1, 1)
					health.Set(in, name, false, 1, 1)
				}
				if !slices.Equal(all, was) || !slices.Equal(more, all2) {
					t.Fatalf("%s %q", tellAll(l), names)
				}
			}
		}
	}
}

// P19.4: results stay, with the room behind their length.
func TestResultsStay(t *testing.T) {
	c := chance(203)
	for range 500 {
		all := c.results(c.below(50))
		was, n := slices.Clone(all), c.below(len(all)+1)
		health.Run(c.health(), all[:n], c.number(), c.number())
		if !slices.Equal(all, was) {
			t.Fatal(tellResults(was), tellResults(all))
		}
	}
}

// P19.4: what is written into one answer of Sync shows in no other, nor in what was handed in, nor the other way round.
func TestSyncApart(t *testing.T) {
	for _, l := range lists() {
		for _, names := range wanted() {
			in, all := roomy(l, 3)
			was, asked := slices.Clone(all), slices.Clone(names)
			want := toldSync(l, names)
			one, two := health.Sync(in, asked), health.Sync(in, asked)
			if spoil(one); !slices.Equal(all, was) || !slices.Equal(two, want) {
				t.Fatalf("the answer: %s %q", tellAll(l), names)
			}
			spoil(in)
			if spoilNames(asked); !slices.Equal(two, want) {
				t.Fatalf("what was handed in: %s %q", tellAll(l), names)
			}
			copy(all, was)
			if three := health.Sync(in, names); !slices.Equal(three, want) {
				t.Fatalf("again: %s %q", tellAll(l), names)
			}
		}
	}
}

// P19.4: the same of Set, by a name that is there and by one that isn't, by results that change something and by such that don't.
func TestSetApart(t *testing.T) {
	for _, l := range lists() {
		for _, name := range []string{"m", "a", "q", "", "room"} {
			for _, well := range []bool{false, true} {
				in, all := roomy(l, 3)
				was := slices.Clone(all)
				want, turned, err := toldSet(l, name, well, 2, 2)
				one, _, _ := health.Set(in, name, well, 2, 2)
				two, is, e := health.Set(in, name, well, 2, 2)
				if is != turned || e != err {
					t.Fatal(tellAll(l), name, is, e)
				}
				if spoil(one); !slices.Equal(all, was) || !slices.Equal(two, want) {
					t.Fatal("the answer:", tellAll(l), name)
				}
				if spoil(in); !slices.Equal(two, want) {
					t.Fatal("what was handed in:", tellAll(l), name)
				}
				copy(all, was)
				if three, _, _ := health.Set(in, name, well, 2, 2); !slices.Equal(three, want) {
					t.Fatal("again:", tellAll(l), name)
				}
			}
		}
	}
}

// P19.4: the same of Down.
func TestDownApart(t *testing.T) {
	for _, l := range lists() {
		in, all := roomy(l, 3)
		was, want := slices.Clone(all), toldDown(l)
		one, two := health.Down(in), health.Down(in)
		if spoilNames(one); !slices.Equal(all, was) || !slices.Equal(two, want) {
			t.Fatal("the answer:", tellAll(l))
		}
		if spoil(in); !slices.Equal(two, want) {
			t.Fatal("what was handed in:", tellAll(l))
		}
		copy(all, was)
		if three := health.Down(in); !slices.Equal(three, want) {
			t.Fatal("again:", tellAll(l))
		}
	}
}

// P19.4: the lists of a row of calls share no memory, each with each other.
func TestRowApart(t *testing.T) {
	c := chance(204)
	l := health.Sync(nil, []string{"a", "b", "m"})
	all, was := [][]api.Health{l}, [][]api.Health{slices.Clone(l)}
	for range 60 {
		if c.below(4) == 0 {
			l = health.Sync(l, append(c.names(4), "a", "m"))
		} else {
			l, _, _ = health.Set(l, []string{"a", "m", "q"}[c.below(3)], c.below(2) == 0, 2, 2)
		}
		all, was = append(all, l), append(was, slices.Clone(l))
	}
	for i := range all {
		for j := i; j < len(all); j++ {
			if !slices.Equal(all[j], was[j]) {
				t.Fatal(i, j, tellAll(all[j]))
			}
		}
		spoil(all[i])
	}
}

// P19.4: what is put into the room behind an answer shows in no other.
func TestRoomBehind(t *testing.T) {
	l := []api.Health{{Name: "a", Run: 1}, {Name: "b", Down: true}, {Name: "m"}, {Name: "n"}, {Name: "z"}}
	for n := range l {
		for _, name := range []string{"a", "q"} {
			one, _, _ := health.Set(l[:n], name, true, 1, 1)
			two, _, _ := health.Set(one, name, true, 1, 1)
			was, its := slices.Clone(one), slices.Clone(two)
			_ = append(one, api.Health{Name: "one"})
			_ = append(two, api.Health{Name: "two"})
			if !slices.Equal(one, was) || !slices.Equal(two, its) || l[n].Name == "one" || l[n].Name == "two" {
				t.Fatal(n, name, tellAll(l))
			}
		}
	}
}

// P19.4: what a call answers hangs on its arguments alone, whatever was asked ahead of it.
func TestAgain(t *testing.T) {
	c := chance(205)
	for range 500 {
		l, names, name, well := c.healths(c.below(9)), c.names(c.below(9)), c.name(), c.below(2) == 0
		s := health.Sync(l, names)
		u, is, e := health.Set(l, name, well, 2, 3)
		d := health.Down(l)
		for range 4 {
			health.Sync(c.healths(5), c.names(5))
			health.Set(c.healths(5), name, !well, 1, 1)
			health.Down(c.healths(5))
		}
		v, its, f := health.Set(l, name, well, 2, 3)
		if !slices.Equal(s, health.Sync(l, names)) || !slices.Equal(d, health.Down(l)) || !slices.Equal(u, v) || is != its || e != f {
			t.Fatalf("%s %q %q", tellAll(l), names, name)
		}
	}
}

// P19.4: names whose bytes are in memory that is used again.
func TestNamesNotKept(t *testing.T) {
	bytes := []byte("web")
	l := health.Sync(nil, []string{string(bytes)})
	copy(bytes, "top")
	l = health.Sync(l, []string{string(bytes), l[0].Name})
	if !slices.Equal(l, []api.Health{{Name: "top"}, {Name: "web"}}) {
		t.Error(tellAll(l))
	}
}
