package flow_test

import (
	"testing"

	"wayleave/api"
	"wayleave/sip"
)

// crowds are flows whose places in a table of that room are the same, or lie side by side, also round its end: by the number of slots that it has, and by others that a table might have.
func crowds(k [16]byte, room, n int) [][]api.Flow {
	var all [][]api.Flow
	for _, slots := range []int{2 * room, room, room + 1, 4 * room} {
		for _, rests := range [][]int{{0}, {slots - 1}, {slots / 2}, {slots - 1, 0}, {0, slots - 1}, {slots - 2, slots - 1, 0, 1}, {1, 0, slots - 1, slots - 2}, {slots - 1, slots - 1, 0}, {3, 4}, {5, 4, 3}, {slots - 2, 0, slots - 2}} {
			all = append(all, near(k, slots, n, rests...))
		}
	}
	return all
}

// P21.2: flows whose hashes come to the same place are made as they are told to be.
func TestNear(t *testing.T) {
	for i, f := range near(key(), 16, 12, 15, 0, 1) {
		if got := int(sip.Hash(key(), f.Key) % 16); got != []int{15, 0, 1}[i%3] || f.No != i {
			t.Error(i, got, tell(f))
		}
	}
}

// P21.2: a crowd of four put in each order and dropped in each order: behind each act those that are left are found, and no other.
func TestCrowdOrders(t *testing.T) {
	for _, room := range []int{4, 5, 8} {
		for _, l := range crowds(key(), room, 4) {
			for _, in := range orders(4) {
				for _, out := range orders(4) {
					b := pair(t, key(), room)
					for _, i := range in {
						b.put(l[i])
					}
					for _, i := range out {
						if !b.drop(l[i].Key) {
							t.Fatal(room, in, out, i)
						}
						for _, f := range l {
							b.get(f.Key)
						}
					}
					b.check()
				}
			}
		}
	}
}

// P21.2: the same, where one goes and comes again.
func TestCrowdHoles(t *testing.T) {
	for _, room := range []int{6, 8} {
		for _, l := range crowds(key(), room, 6) {
			for i := range l {
				for j := range l {
					b := pair(t, key(), room)
					for _, f := range l {
						b.put(f)
					}
					for _, at := range []int{i, j} {
						b.drop(l[at].Key)
						b.check(l[at].Key)
					}
					for _, at := range []int{j, i} {
						f := l[at]
						f.No, f.Name = 100, "again"
						b.put(f)
						b.check()
					}
				}
			}
		}
	}
}

// P21.2: flows of a crowd that is greater than the room go one behind the other, the oldest first.
func TestCrowdFull(t *testing.T) {
	c := chance(216)
	for _, room := range []int{1, 2, 3, 5, 8} {
		for _, l := range crowds(key(), room, 3*room+2) {
			for range 3 {
				b := pair(t, key(), room)
				for _, i := range c.order(len(l)) {
					b.put(l[i])
					b.check(l[0].Key, l[len(l)-1].Key)
				}
			}
		}
	}
}

// P21.3: each choice of a crowd of seven that is stale: those go, and the others are found, also when what went comes again.
func TestCrowdSweeps(t *testing.T) {
	for _, room := range []int{7, 8, 9} {
		for _, l := range crowds(key(), room, 7) {
			for choice := range 1 << len(l) {
				b := pair(t, key(), room)
				for i, f := range l {
					f.Seen = 10 * (choice >> i & 1)
					b.put(f)
				}
				gone := b.sweep(15, same(10))
				b.check()
				for _, f := range l {
					b.get(f.Key)
				}
				for _, f := range gone {
					f.Seen = 100
					b.put(f)
				}
				b.check()
			}
		}
	}
}

// P21.2, P21.3: a crowd put, dropped and swept in whatever order.
func TestCrowdActs(t *testing.T) {
	c := chance(217)
	for _, room := range []int{3, 8, 20} {
		for at, l := range crowds(key(), room, room+3) {
			b := pair(t, key(), room)
			for i := range 150 {
				f := l[c.below(len(l))]
				f.No, f.Seen, f.State = c.below(200), i, 1+c.below(5)
				switch n := c.below(10); {
				case n < 6:
					b.put(f)
				case n < 9:
					b.drop(f.Key)
				default:
					b.sweep(i, same(c.below(30)))
				}
				for _, g := range l {
					b.get(g.Key)
				}
				if b.table.Len() != len(b.told.l) {
					t.Fatal(room, at, i)
				}
			}
			b.check()
		}
	}
}

// P21.2: a greater crowd: half of the table's room at one place, at its end, and what comes and goes beside it.
func TestGreatCrowd(t *testing.T) {
	const room = 64
	for _, first := range []int{0, 60, 100, 127} {
		l := append(near(key(), 2*room, 32, first), near(key(), 2*room, 30, first+1, first+127, first+5, first+31, first+33)...)
		c := chance(218)
		b := pair(t, key(), room)
		for i, f := range l {
			f.No = i
			b.put(f)
		}
		b.check()
		for _, i := range c.order(len(l)) {
			b.drop(l[i].Key)
			for _, f := range l {
				b.get(f.Key)
			}
		}
		if b.check(); b.table.Len() != 0 {
			t.Error(first, b.table.Len())
		}
	}
}
