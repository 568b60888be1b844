package flow_test

import (
	"slices"
	"testing"

	"wayleave/api"
	"wayleave/flow"
)

// checkOlder holds Older of both ways round: a is older than b, and b isn't than a.
func checkOlder(t *testing.T, a, b api.Flow) {
	t.Helper()
	if !toldOlder(a, b) || toldOlder(b, a) {
		t.Fatal("the words:", tell(a), tell(b))
	}
	if !flow.Older(a, b) || flow.Older(b, a) {
		t.Fatal(tell(a), tell(b))
	}
}

// P21.1: of unlike numbers the lesser one tells, whatever else the flows have.
func TestOlderNumbers(t *testing.T) {
	nos := []int{0, 1, 2, 3, 255, 256, 65535, 65536, 1 << 31, 1 << 32, 1<<32 + 1, 1 << 40, 1 << 59, most - 1, most}
	for i, m := range nos {
		for _, n := range nos[i+1:] {
			for _, two := range [][2]int{{0, 0}, {0, 2}, {2, 0}, {0, 1}, {1, 0}, {65534, 2}} {
				a, b := made(two[0], m), made(two[1], n)
				checkOlder(t, a, b)
				a.Seen, b.Seen, a.State, b.State, a.Name, b.Name = 100, 0, 5, 1, "z", "a"
				checkOlder(t, a, b)
			}
		}
	}
}

// P21.1: the same flow isn't older than itself, nor one that has its No and its Key, whatever else it has.
func TestOlderSame(t *testing.T) {
	for _, f := range []api.Flow{base(false), base(true), made(0, 0), made(1, most), made(2, 5)} {
		g := f
		for _, change := range []func(){func() {}, func() { g.Name = "a" }, func() { g.Name = "zz" }, func() { g.State = 1 }, func() { g.State = 5 }, func() { g.Seen = 0 }, func() { g.Seen = api.MaxTick }} {
			change()
			if flow.Older(f, g) || flow.Older(g, f) || flow.Older(f, f) {
				t.Error(tell(f), tell(g))
			}
		}
	}
}

// steps are pairs of keys that differ in one byte, or in the family, the lesser one first.
func steps() [][2]api.Tuple {
	var l [][2]api.Tuple
	pairs := [][2]byte{{0, 1}, {0, 255}, {1, 2}, {9, 10}, {127, 128}, {1, 128}, {128, 255}, {254, 255}}
	for _, six := range []bool{false, true} {
		put := func(change func(k *api.Tuple, n byte)) {
			for _, x := range pairs {
				a, b := base(six).Key, base(six).Key
				change(&a, x[0])
				change(&b, x[1])
				l = append(l, [2]api.Tuple{a, b})
			}
		}
		for i := range 16 {
			if !six && i > 3 {
				break
			}
			put(func(k *api.Tuple, n byte) { k.Src.B[i] = n })
			put(func(k *api.Tuple, n byte) { k.Dst.B[i] = n })
		}
		put(func(k *api.Tuple, n byte) { k.Proto = int(n) })
		put(func(k *api.Tuple, n byte) { k.Sport = int(n) })
		put(func(k *api.Tuple, n byte) { k.Sport = int(n)*256 + 7 })
		put(func(k *api.Tuple, n byte) { k.Dport = int(n) })
		put(func(k *api.Tuple, n byte) { k.Dport = int(n)*256 + 7 })
	}
	four := base(false).Key
	other := four
	other.Src.Six, other.Dst.Six = true, true
	return append(l, [2]api.Tuple{four, other}, [2]api.Tuple{{}, {Src: api.Addr{Six: true}, Dst: api.Addr{Six: true}}})
}

// P21.1: of the same No keys that differ in a single byte, or in the family.
func TestOlderBytes(t *testing.T) {
	for _, x := range steps() {
		for _, no := range []int{0, 1, most} {
			a, b := made(0, no), made(0, no)
			a.Key, b.Key = x[0], x[1]
			checkOlder(t, a, b)
			a.Name, a.State, a.Seen = "zz", 5, api.MaxTick
			checkOlder(t, a, b)
		}
	}
}

// P21.1: the bytes tell in their order: an earlier one, whatever the later ones are.
func TestOlderPlaces(t *testing.T) {
	full := [16]byte(slices.Repeat([]byte{255}, 16))
	places := []struct{ low, high func(k *api.Tuple) }{
		{func(k *api.Tuple) {}, func(k *api.Tuple) { k.Src.Six, k.Dst.Six = true, true }},
	}
	for i := range 16 {
		places = append(places, struct{ low, high func(k *api.Tuple) }{func(k *api.Tuple) { k.Src.B[i] = 0 }, func(k *api.Tuple) { k.Src.B[i] = 1 }})
	}
	for i := range 16 {
		places = append(places, struct{ low, high func(k *api.Tuple) }{func(k *api.Tuple) { k.Dst.B[i] = 0 }, func(k *api.Tuple) { k.Dst.B[i] = 1 }})
	}
	places = append(places, []struct{ low, high func(k *api.Tuple) }{
		{func(k *api.Tuple) { k.Proto = 0 }, func(k *api.Tuple) { k.Proto = 1 }},
		{func(k *api.Tuple) { k.Sport &= 255 }, func(k *api.Tuple) { k.Sport = 256 | k.Sport&255 }},
		{func(k *api.Tuple) { k.Sport &^= 255 }, func(k *api.Tuple) { k.Sport = k.Sport&^255 | 1 }},
		{func(k *api.Tuple) { k.Dport &= 255 }, func(k *api.Tuple) { k.Dport = 256 | k.Dport&255 }},
		{func(k *api.Tuple) { k.Dport &^= 255 }, func(k *api.Tuple) { k.Dport = k.Dport&^255 | 1 }},
	}...)
	for i, x := range places {
		// All bytes behind that place are full in the one that is older, and 0 in the other.
		a := api.Tuple{Src: api.Addr{Six: true, B: full}, Dst: api.Addr{Six: true, B: full}, Proto: 255, Sport: 65535, Dport: 65535}
		b := api.Tuple{Src: api.Addr{Six: true}, Dst: api.Addr{Six: true}}
		if i == 0 {
			a.Src, a.Dst = api.Addr{B: [16]byte{255, 255, 255, 255}}, api.Addr{B: [16]byte{255, 255, 255, 255}}
		}
		for _, y := range places[:i] {
			if i > 0 {
				y.low(&a)
				y.low(&b)
			}
		}
		x.low(&a)
		x.high(&b)
		f, g := made(0, 4), made(0, 4)
		f.Key, g.Key = a, b
		checkOlder(t, f, g)
	}
}

// P21.1: known pairs.
func TestOlderKnown(t *testing.T) {
	with := func(no, sport, dport int, src ...byte) api.Flow {
		f := made(0, no)
		f.Key.Sport, f.Key.Dport = sport, dport
		copy(f.Key.Src.B[:], src)
		return f
	}
	for _, x := range [][2]api.Flow{
		{with(3, 1, 1, 9), with(5, 1, 1, 1)},
		{with(5, 9, 9, 1), with(5, 1, 1, 2)},
		{with(5, 255, 1, 1), with(5, 256, 0, 1)},
		{with(5, 1, 255, 1), with(5, 1, 256, 1)},
		{with(5, 1, 65535, 1), with(5, 2, 0, 1)},
		{with(5, 1, 1, 10, 0, 0, 2), with(5, 1, 1, 10, 0, 0, 10)},
		{with(5, 1, 1, 127), with(5, 1, 1, 128)},
		{with(0, 1, 1, 127), with(most, 1, 1, 1)},
	} {
		checkOlder(t, x[0], x[1])
	}
}

// P21.1: of any two flows one is older, if they aren't of one No and Key; and of three that goes on.
func TestOlderByWords(t *testing.T) {
	c := chance(212)
	var l []api.Flow
	for range 150 {
		l = append(l, c.flow(40))
	}
	for _, a := range l {
		for _, b := range l {
			if got, want := flow.Older(a, b), toldOlder(a, b); got != want {
				t.Fatal(tell(a), tell(b), got)
			}
			if one := a.No == b.No && a.Key == b.Key; one == (flow.Older(a, b) || flow.Older(b, a)) {
				t.Fatal(tell(a), tell(b), one)
			}
		}
	}
	for range 30000 {
		x, y, z := l[c.below(150)], l[c.below(150)], l[c.below(150)]
		if flow.Older(x, y) && flow.Older(y, z) && !flow.Older(x, z) {
			t.Fatal(tell(x), tell(y), tell(z))
		}
	}
}
