package flow_test

import (
	"bytes"
	"math"
	"slices"
	"strconv"
	"strings"
	"testing"

	"wayleave/api"
	"wayleave/flow"
	"wayleave/sip"
)

// most is the greatest No.
const most = 1 << 60

// key is the one by which most tables hash.
func key() [16]byte { return [16]byte{7, 1, 8, 2, 8, 1, 8, 2, 8, 4, 5, 9, 0, 4, 5, 2} }

// keys are some by which tables hash.
func keys() [][16]byte {
	full := [16]byte(slices.Repeat([]byte{255}, 16))
	return [][16]byte{{}, full, key(), {1}, {15: 1}, {15: 128}, {0, 1, 2, 3, 4, 5, 6, 7, 8, 9, 10, 11, 12, 13, 14, 15}}
}

// tuple is that of a number below 2^32, unlike that of each other: of IPv4, if the number is even, else of IPv6.
func tuple(n int) api.Tuple {
	k := api.Tuple{Src: api.Addr{B: [16]byte{10, byte(n >> 24), byte(n >> 16), 1}}, Dst: api.Addr{B: [16]byte{5, 6, 7, 8}}, Proto: api.ProtoTcp, Sport: n & 65535, Dport: 80}
	if n%2 == 1 {
		k.Src.Six, k.Dst.Six, k.Dst.B[15], k.Proto = true, true, 9, api.ProtoUdp
	}
	return k
}

// made is a flow of the tuple of that number.
func made(n, no int) api.Flow {
	return api.Flow{Key: tuple(n), Name: "web", State: api.Open, Seen: 5, No: no}
}

// fresh is a table without flows.
func fresh(t *testing.T, k [16]byte, room int) *flow.Table {
	t.Helper()
	tab, e := flow.New(k, room)
	if tab == nil || e != api.OK {
		t.Fatal("New", room, e)
	}
	return tab
}

// toldBytes are a tuple's bytes by the words of chapter 15.
func toldBytes(k api.Tuple) []byte {
	b := make([]byte, 38)
	b[0] = 4
	if k.Src.Six {
		b[0] = 6
	}
	for i := range 16 {
		b[1+i], b[17+i] = k.Src.B[i], k.Dst.B[i]
	}
	b[33] = byte(k.Proto)
	b[34], b[35] = byte(k.Sport/256), byte(k.Sport%256)
	b[36], b[37] = byte(k.Dport/256), byte(k.Dport%256)
	return b
}

// toldName tells by the words of chapter 18 whether s is a name.
func toldName(s string) bool {
	for _, c := range []byte(s) {
		if bytes.IndexByte([]byte("abcdefghijklmnopqrstuvwxyz0123456789-."), c) < 0 {
			return false
		}
	}
	return s != "" && len(s) <= 24
}

// toldRight tells by the words whether f is right.
func toldRight(f api.Flow) bool {
	if f.Key.Src.Six != f.Key.Dst.Six {
		return false
	}
	for i := 4; i < 16 && !f.Key.Src.Six; i++ {
		if f.Key.Src.B[i] != 0 || f.Key.Dst.B[i] != 0 {
			return false
		}
	}
	if f.Key.Proto < 0 || f.Key.Proto > 255 || f.Key.Sport < 0 || f.Key.Sport > 65535 || f.Key.Dport < 0 || f.Key.Dport > 65535 {
		return false
	}
	if !toldName(f.Name) || !slices.Contains([]int{1, 2, 3, 4, 5}, f.State) {
		return false
	}
	return f.Seen >= 0 && f.Seen <= 1099511627776 && f.No >= 0 && f.No <= 1152921504606846976
}

// toldOlder tells by the words whether a is older than b.
func toldOlder(a, b api.Flow) bool {
	if a.No != b.No {
		return a.No < b.No
	}
	x, y := toldBytes(a.Key), toldBytes(b.Key)
	for i := range x {
		if x[i] != y[i] {
			return x[i] < y[i]
		}
	}
	return false
}

// toldStale tells by the words of chapter 20 whether a flow is stale.
func toldStale(f api.Flow, now int, idle [6]int) bool {
	if now < 0 {
		now = 0
	}
	if now > 1<<40 {
		now = 1 << 40
	}
	return now-f.Seen > idle[f.State]
}

// plain is what a table is by the words: a list of flows, in whatever order, and room.
type plain struct {
	room int
	l    []api.Flow
}

func (p *plain) at(k api.Tuple) int {
	return slices.IndexFunc(p.l, func(f api.Flow) bool { return f.Key == k })
}

func (p *plain) put(f api.Flow) (api.Flow, bool, api.Errno) {
	if !toldRight(f) {
		return api.Flow{}, false, api.ErrArg
	}
	if at := p.at(f.Key); at >= 0 {
		p.l[at] = f
		return api.Flow{}, false, api.OK
	}
	gone, full := api.Flow{}, len(p.l) == p.room
	if full {
		at := 0
		for i := range p.l {
			if toldOlder(p.l[i], p.l[at]) {
				at = i
			}
		}
		gone = p.l[at]
		p.l = slices.Delete(p.l, at, at+1)
	}
	p.l = append(p.l, f)
	return gone, full, api.OK
}

func (p *plain) get(k api.Tuple) (api.Flow, bool) {
	if at := p.at(k); at >= 0 {
		return p.l[at], true
	}
	return api.Flow{}, false
}

func (p *plain) drop(k api.Tuple) bool {
	at := p.at(k)
	if at >= 0 {
		p.l = slices.Delete(p.l, at, at+1)
	}
	return at >= 0
}

func (p *plain) sweep(now int, idle [6]int) []api.Flow {
	var gone, left []api.Flow
	for _, f := range p.list() {
		if toldStale(f, now, idle) {
			gone = append(gone, f)
		} else {
			left = append(left, f)
		}
	}
	p.l = left
	return gone
}

func (p *plain) list() []api.Flow {
	return slices.SortedFunc(slices.Values(p.l), func(a, b api.Flow) int {
		if a.No != b.No && a.No < b.No || a.No == b.No && bytes.Compare(toldBytes(a.Key), toldBytes(b.Key)) < 0 {
			return -1
		}
		return 1
	})
}

// both are a table, and what it is by the words; the same is done to both.
type both struct {
	t     *testing.T
	table *flow.Table
	told  *plain
}

// pair is both without flows.
func pair(t *testing.T, k [16]byte, room int) both {
	t.Helper()
	return both{t, fresh(t, k, room), &plain{room: room}}
}

func (b both) put(f api.Flow) (api.Flow, bool, api.Errno) {
	b.t.Helper()
	gone, full, e := b.table.Put(f)
	want, is, err := b.told.put(f)
	if gone != want || full != is || e != err {
		b.t.Fatalf("Put(%s): %s %t %d, not %s %t %d", tell(f), tell(gone), full, e, tell(want), is, err)
	}
	return gone, full, e
}

func (b both) get(k api.Tuple) {
	b.t.Helper()
	f, is := b.table.Get(k)
	want, there := b.told.get(k)
	if f != want || is != there {
		b.t.Fatalf("Get(%s): %s %t, not %s %t", tellKey(k), tell(f), is, tell(want), there)
	}
}

func (b both) drop(k api.Tuple) bool {
	b.t.Helper()
	is, there := b.table.Drop(k), b.told.drop(k)
	if is != there {
		b.t.Fatalf("Drop(%s): %t, not %t", tellKey(k), is, there)
	}
	return is
}

func (b both) sweep(now int, idle [6]int) []api.Flow {
	b.t.Helper()
	gone, want := b.table.Sweep(now, idle), b.told.sweep(now, idle)
	if !slices.Equal(gone, want) {
		b.t.Fatalf("Sweep(%d, %d):\n%s, not\n%s", now, idle, tellAll(gone), tellAll(want))
	}
	return gone
}

// check holds all that the table has against the words; of the keys beside those that are there, too.
func (b both) check(l ...api.Tuple) {
	b.t.Helper()
	if got, want := b.table.Len(), len(b.told.l); got != want {
		b.t.Fatalf("Len: %d, not %d", got, want)
	}
	if got, want := b.table.List(), b.told.list(); !slices.Equal(got, want) {
		b.t.Fatalf("List:\n%s, not\n%s", tellAll(got), tellAll(want))
	}
	for _, f := range b.told.l {
		b.get(f.Key)
	}
	for _, k := range l {
		b.get(k)
	}
}

// tellKey is a key as text.
func tellKey(k api.Tuple) string {
	var l []string
	for _, n := range []int{k.Proto, k.Sport, k.Dport} {
		l = append(l, strconv.Itoa(n))
	}
	for _, a := range []api.Addr{k.Src, k.Dst} {
		text := strconv.FormatBool(a.Six)
		for _, c := range a.B {
			text += "." + strconv.Itoa(int(c))
		}
		l = append(l, text)
	}
	return strings.Join(l, " ")
}

// tell is a flow as text.
func tell(f api.Flow) string {
	return "{" + tellKey(f.Key) + " " + strconv.Quote(f.Name) + " " + strconv.Itoa(f.State) + " " + strconv.Itoa(f.Seen) + " " + strconv.Itoa(f.No) + "}"
}

// tellAll are flows as text.
func tellAll(l []api.Flow) string {
	var all []string
	for _, f := range l {
		all = append(all, tell(f))
	}
	return strings.Join(all, "\n")
}

// near are so many flows of tuples whose hashes have those rests by the number of slots, one behind the other, again and again.
func near(k [16]byte, slots, n int, rests ...int) []api.Flow {
	var l []api.Flow
	for i := 0; len(l) < n; i++ {
		want := rests[len(l)%len(rests)] % slots
		if int(sip.Hash(k, tuple(i))%uint64(slots)) == want {
			l = append(l, made(i, len(l)))
		}
	}
	return l
}

// chance are numbers that look like such by chance, but are the same each time.
type chance uint64

func (c *chance) next() uint64 {
	*c = *c*6364136223846793005 + 1442695040888963407
	n := uint64(*c)
	return (n ^ n>>33) * 0xff51afd7ed558ccd >> 16
}

// below is a number from 0 to n - 1.
func (c *chance) below(n int) int { return int(c.next() % uint64(n)) }

// of is one of l.
func (c *chance) of(l []int) int { return l[c.below(len(l))] }

// order are the places of so many, in whatever order.
func (c *chance) order(n int) []int {
	l := make([]int, n)
	for i := range l {
		j := c.below(i + 1)
		l[i], l[j] = l[j], i
	}
	return l
}

// flow is a right one of a tuple of a number below n.
func (c *chance) flow(n int) api.Flow {
	name := []string{"a", "web", "top-1", ".", "-", strings.Repeat("z", 24)}[c.below(6)]
	seen := c.of([]int{c.below(20), c.below(20), c.below(20), 0, api.MaxTick, api.MaxTick - c.below(5)})
	no := c.of([]int{c.below(10), c.below(1000), c.below(1000), most, most - c.below(5), 0})
	return api.Flow{Key: tuple(c.below(n)), Name: name, State: 1 + c.below(5), Seen: seen, No: no}
}

// idle are ticks for which flows are kept.
func (c *chance) idle() [6]int {
	var idle [6]int
	for i := range idle {
		idle[i] = c.of([]int{c.below(20), c.below(20), 0, -1, api.MaxTick, math.MaxInt})
	}
	return idle
}

// orders are all orders in which n may stand.
func orders(n int) [][]int {
	all := [][]int{{}}
	for i := range n {
		var more [][]int
		for _, l := range all {
			for at := range len(l) + 1 {
				more = append(more, slices.Insert(slices.Clone(l), at, i))
			}
		}
		all = more
	}
	return all
}
