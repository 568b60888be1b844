package flow_test

import (
	"math"
	"slices"
	"testing"

	"wayleave/api"
	"wayleave/flow"
)

// P21.1: rooms of all kinds.
func TestRooms(t *testing.T) {
	for room, ok := range map[int]bool{0: false, -1: false, -2: false, math.MinInt: false, math.MinInt + 1: false, -api.MaxFlows: false, 1: true, 2: true, 3: true, 100: true, api.MaxFlows - 1: true, api.MaxFlows: true, api.MaxFlows + 1: false, 8192: false, 1 << 32: false, 1<<32 + 1: false, math.MaxInt - 1: false, math.MaxInt: false} {
		for _, k := range keys() {
			tab, e := flow.New(k, room)
			if !ok && (tab != nil || e != api.ErrArg) {
				t.Error(room, tab, e)
			}
			if ok && (tab == nil || e != api.OK || tab.Len() != 0 || len(tab.List()) != 0) {
				t.Error(room, e)
			}
		}
	}
}

// P21.1, P21.2: each room to 70, and the greatest: so many flows and no more are kept.
func TestRoomFor(t *testing.T) {
	for room := 1; room <= 70; room++ {
		checkRoom(t, room)
	}
	for _, room := range []int{127, 128, 129, 1000, api.MaxFlows - 1, api.MaxFlows} {
		checkRoom(t, room)
	}
}

// checkRoom holds a table at that room: nothing goes till it is full, and then the oldest each time.
func checkRoom(t *testing.T, room int) {
	t.Helper()
	tab := fresh(t, key(), room)
	for i := range room {
		if gone, is, e := tab.Put(made(i, 10+i)); is || e != api.OK || gone != (api.Flow{}) || tab.Len() != i+1 {
			t.Fatal(room, i, tell(gone), is, e, tab.Len())
		}
	}
	for i := range 5 {
		gone, is, e := tab.Put(made(room+i, 10+room+i))
		if !is || e != api.OK || gone != made(i, 10+i) || tab.Len() != room {
			t.Fatal(room, i, tell(gone), is, e, tab.Len())
		}
		if f, there := tab.Get(tuple(i)); there || f != (api.Flow{}) {
			t.Fatal(room, i, tell(f))
		}
	}
	for i, f := range tab.List() {
		if f != made(i+5, 15+i) {
			t.Fatal(room, i, tell(f))
		}
		if g, there := tab.Get(f.Key); !there || g != f {
			t.Fatal(room, i, tell(g), there)
		}
	}
}

// P21.2: the chapter's example.
func TestExample(t *testing.T) {
	for _, k := range keys() {
		tab := fresh(t, k, 2)
		for _, no := range []int{5, 3} {
			if gone, is, e := tab.Put(made(no, no)); is || gone != (api.Flow{}) || e != api.OK {
				t.Error(no, tell(gone), is, e)
			}
		}
		if gone, is, e := tab.Put(made(9, 9)); !is || gone != made(3, 3) || e != api.OK {
			t.Error(tell(gone), is, e)
		}
		if got := tab.List(); !slices.Equal(got, []api.Flow{made(5, 5), made(9, 9)}) || tab.Len() != 2 {
			t.Error(tellAll(got))
		}
	}
}

// filled are both with so many flows, of the numbers 10, 20, ..
func filled(t *testing.T, room, n int) both {
	t.Helper()
	b := pair(t, key(), room)
	for i := range n {
		b.put(made(i, 10+10*i))
	}
	return b
}

// P21.2: a flow that is put, got, put once more and dropped, in tables without flows, with one, with one less than there is room for, and full.
func TestFillings(t *testing.T) {
	for _, room := range []int{1, 2, 3, 8, 33} {
		for _, n := range []int{0, 1, room / 2, room - 1, room} {
			if n > room {
				continue
			}
			beside := []api.Tuple{tuple(0), tuple(n), tuple(n + 1), tuple(100), {}}
			for _, no := range []int{0, 5, 15, 10 * n, 10*n + 5, most} {
				b := filled(t, room, n)
				b.check(beside...)
				if b.drop(tuple(100)) {
					t.Fatal(room, n)
				}
				b.check(beside...)
				if _, is, _ := b.put(made(100, no)); is != (n == room) {
					t.Fatal(room, n, no, is)
				}
				b.check(beside...)
				if _, is, _ := b.put(made(100, most-no)); is {
					t.Fatal(room, n, no)
				}
				b.check(beside...)
				if !b.drop(tuple(100)) || b.drop(tuple(100)) {
					t.Fatal(room, n, no)
				}
				b.check(beside...)
			}
		}
	}
}

// P21.2: a flow of a Key that is there, put once more: older and newer than it was, with each other field another one, into a full table too; none goes.
func TestOnceMore(t *testing.T) {
	for _, room := range []int{1, 2, 5, 9} {
		for n := 1; n <= room; n++ {
			for i := range n {
				for _, no := range []int{0, 5, 10 + 10*i, 11 + 10*i, 9 + 10*i, 1000, most} {
					b := filled(t, room, n)
					f := api.Flow{Key: tuple(i), Name: "other", State: api.Closing, Seen: api.MaxTick, No: no}
					for range 2 {
						if gone, is, e := b.put(f); is || gone != (api.Flow{}) || e != api.OK {
							t.Fatal(room, n, i, no)
						}
						b.check()
					}
					if got, is := b.table.Get(f.Key); !is || got != f {
						t.Fatal(tell(got), is)
					}
					// What goes next is told by what the flow is now.
					for j := range 3 {
						b.put(made(100+j, 500))
						b.check(f.Key)
					}
				}
			}
		}
	}
}

// P21.2: a flow that isn't right: ErrArg, and the table is as it was, whether it is full or not.
func TestPutWrong(t *testing.T) {
	for _, n := range []int{0, 1, 3, 4} {
		b := filled(t, 4, n)
		for _, x := range altered() {
			if x.ok {
				continue
			}
			if gone, is, e := b.put(x.f); gone != (api.Flow{}) || is || e != api.ErrArg {
				t.Fatal(x.what, tell(gone), is, e)
			}
			b.check(x.f.Key)
		}
	}
}

// P21.2: the same of a Key that is there: a flow with it that isn't right changes nothing.
func TestPutWrongThere(t *testing.T) {
	for _, six := range []bool{false, true} {
		b := pair(t, key(), 2)
		b.put(base(six))
		b.put(made(1, 1))
		for _, change := range []func(f *api.Flow){
			func(f *api.Flow) { f.Name = "" }, func(f *api.Flow) { f.Name = "Web" }, func(f *api.Flow) { f.State = 0 }, func(f *api.Flow) { f.State = 6 },
			func(f *api.Flow) { f.Seen = -1 }, func(f *api.Flow) { f.Seen = api.MaxTick + 1 }, func(f *api.Flow) { f.No = -1 }, func(f *api.Flow) { f.No = most + 1 },
		} {
			f := base(six)
			change(&f)
			if _, _, e := b.put(f); e != api.ErrArg {
				t.Error(tell(f), e)
			}
			b.check()
		}
	}
}

// P21.2: each right flow is kept as it is.
func TestPutRight(t *testing.T) {
	tab := fresh(t, key(), 1)
	for _, x := range altered() {
		if !x.ok {
			continue
		}
		if _, _, e := tab.Put(x.f); e != api.OK {
			t.Fatal(x.what, e)
		}
		if f, is := tab.Get(x.f.Key); !is || f != x.f || !slices.Equal(tab.List(), []api.Flow{x.f}) || tab.Len() != 1 {
			t.Fatal(x.what, tell(f), is)
		}
	}
}

// P21.2: the oldest one goes by its No, wherever it was put, the one that comes in being older or not.
func TestOldestByNumber(t *testing.T) {
	for _, l := range orders(5) {
		for _, no := range []int{0, 1, 25, most} {
			b := pair(t, key(), 5)
			for _, i := range l {
				b.put(made(i, 10*(i+1)))
			}
			if gone, is, e := b.put(made(9, no)); gone != made(0, 10) || !is || e != api.OK {
				t.Fatal(l, no, tell(gone))
			}
			b.check(tuple(0))
			if gone, _, _ := b.put(made(10, 70)); no <= 1 && gone != made(9, no) || no > 1 && gone != made(1, 20) {
				t.Fatal(l, no, tell(gone))
			}
			b.check(tuple(0), tuple(1), tuple(9))
		}
	}
}

// P21.2: the same of the greatest and least numbers.
func TestOldestAtEdges(t *testing.T) {
	for _, nos := range [][2]int{{0, 1}, {0, most}, {most - 1, most}, {255, 256}, {1<<32 - 1, 1 << 32}, {1<<31 - 1, 1 << 31}, {2, 10}} {
		for _, first := range []int{0, 1} {
			b := pair(t, key(), 2)
			b.put(made(first, nos[first]))
			b.put(made(1-first, nos[1-first]))
			if gone, is, _ := b.put(made(2, most)); !is || gone != made(0, nos[0]) {
				t.Error(nos, first, tell(gone))
			}
		}
	}
}

// P21.2: of the same No the one goes whose Key's bytes are less: keys that differ in a single byte, or in the family.
func TestOldestByBytes(t *testing.T) {
	for _, x := range steps() {
		for _, no := range []int{0, 7, most} {
			for _, l := range orders(2) {
				b := pair(t, key(), 2)
				for _, i := range l {
					f := made(0, no)
					f.Key = x[i]
					// What else it has counts for nothing.
					f.Seen, f.State = 9-i, 5-i
					b.put(f)
				}
				if gone, is, _ := b.put(made(1000, no)); !is || gone.Key != x[0] {
					t.Fatal(tellKey(x[0]), tellKey(x[1]), tell(gone))
				}
				b.check(x[0], x[1])
			}
		}
	}
}

// P21.2: many flows of one No go in the order of their bytes.
func TestAllOfOneNumber(t *testing.T) {
	c := chance(213)
	b := pair(t, key(), 60)
	for _, i := range c.order(60) {
		b.put(made(i, 4))
	}
	want := b.told.list()
	for i := range want {
		if gone, is, _ := b.put(made(100+i, 5)); !is || gone != want[i] {
			t.Fatal(i, tell(gone))
		}
		b.check(want[i].Key)
	}
}

// P21.2: keys that aren't there, got and dropped: in each one byte, or the family, is another one; numbers that come to the same bytes, and keys that aren't right.
func TestNotThere(t *testing.T) {
	for _, six := range []bool{false, true} {
		f := base(six)
		b := pair(t, key(), 3)
		b.put(f)
		b.put(made(5, 5))
		for _, k := range strangers(f.Key) {
			b.get(k)
			if b.drop(k) {
				t.Fatal(tellKey(k))
			}
			b.check(k)
		}
		if !b.drop(f.Key) || b.drop(f.Key) {
			t.Fatal(six)
		}
		b.check(f.Key)
	}
}

// strangers are keys unlike k, as near to it as may be.
func strangers(k api.Tuple) []api.Tuple {
	var l []api.Tuple
	put := func(change func(k *api.Tuple)) {
		other := k
		change(&other)
		l = append(l, other)
	}
	put(func(k *api.Tuple) { k.Src.Six = !k.Src.Six })
	put(func(k *api.Tuple) { k.Dst.Six = !k.Dst.Six })
	put(func(k *api.Tuple) { k.Src.Six, k.Dst.Six = !k.Src.Six, !k.Dst.Six })
	put(func(k *api.Tuple) { k.Src, k.Dst = k.Dst, k.Src })
	put(func(k *api.Tuple) { k.Sport, k.Dport = k.Dport, k.Sport })
	put(func(k *api.Tuple) { *k = api.Tuple{} })
	for i := range 16 {
		for bit := range 8 {
			put(func(k *api.Tuple) { k.Src.B[i] ^= 1 << bit })
			put(func(k *api.Tuple) { k.Dst.B[i] ^= 1 << bit })
		}
	}
	for bit := range 64 {
		put(func(k *api.Tuple) { k.Proto ^= 1 << bit })
		put(func(k *api.Tuple) { k.Sport ^= 1 << bit })
		put(func(k *api.Tuple) { k.Dport ^= 1 << bit })
	}
	for _, n := range []int{-1, 256, 65536, 1 << 32, math.MinInt, math.MaxInt} {
		put(func(k *api.Tuple) { k.Proto = n })
		put(func(k *api.Tuple) { k.Sport = n })
		put(func(k *api.Tuple) { k.Dport = n })
		put(func(k *api.Tuple) { k.Proto += n })
		put(func(k *api.Tuple) { k.Sport += n })
		put(func(k *api.Tuple) { k.Dport += n })
	}
	return l
}

// P21.2: the key of all zero isn't there, till it is put, and again when it was dropped.
func TestZeroKey(t *testing.T) {
	for _, k := range keys() {
		for _, room := range []int{1, 2, 10} {
			b := pair(t, k, room)
			f := api.Flow{Name: "a", State: api.Opening}
			for range 2 {
				b.get(api.Tuple{})
				if b.drop(api.Tuple{}) {
					t.Fatal("there")
				}
				b.put(f)
				b.check(tuple(1))
				if !b.drop(api.Tuple{}) {
					t.Fatal("not there")
				}
				b.check(api.Tuple{})
			}
		}
	}
}

// P21.2: a table whose flows were all dropped has room for as many again.
func TestEmptied(t *testing.T) {
	b := pair(t, key(), 6)
	for round := range 5 {
		for i := range 6 {
			if _, is, _ := b.put(made(10*round+i, i)); is {
				t.Fatal(round, i)
			}
		}
		for i := range 6 {
			if !b.drop(tuple(10*round + (i*5+round)%6)) {
				t.Fatal(round, i)
			}
			b.check()
		}
	}
}
