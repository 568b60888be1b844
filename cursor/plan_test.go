package cursor

import (
	"bytes"
	"encoding/binary"
	"math"
	"slices"
	"testing"

	"wayleave/api"
)

// example is the chapter's plan: a big number of 2 bytes, and a text of 3 at most.
func example() []api.Item {
	return []api.Item{{Kind: api.ItNum, N: 2, Big: true}, {Kind: api.ItText, N: 3}}
}

// mixed is a plan of all kinds, with pieces of it and the bytes that they are laid to.
func mixed() ([]api.Item, []api.Piece, []byte) {
	plan := []api.Item{
		{Kind: api.ItNum, N: 4, Big: true}, {Kind: api.ItVar}, {Kind: api.ItBytes, N: 2}, {Kind: api.ItText, N: 5},
		{Kind: api.ItNum, N: 3}, {Kind: api.ItBytes}, {Kind: api.ItText}, {Kind: api.ItNum, N: 8}, {Kind: api.ItNum, N: 1, Big: true}, {Kind: api.ItVar},
	}
	l := []api.Piece{
		{N: 258}, {N: 300}, {B: []byte("xy")}, {B: []byte("abc")},
		{N: 0x010203}, {}, {}, {N: math.MaxUint64}, {N: 255}, {N: 0},
	}
	b := []byte{0, 0, 1, 2, 172, 2, 'x', 'y', 3, 'a', 'b', 'c', 3, 2, 1, 0, 255, 255, 255, 255, 255, 255, 255, 255, 255, 0}
	return plan, l, b
}

// wrong are items that may not be.
func wrong() []api.Item {
	var l []api.Item
	for _, kind := range []int{math.MinInt, -1, 0, 5, 6, 7, 257, math.MaxInt} {
		l = append(l, api.Item{Kind: kind}, api.Item{Kind: kind, N: 1, Big: true})
	}
	for _, n := range []int{math.MinInt, -8, -1, 0, 9, 16, math.MaxInt} {
		l = append(l, api.Item{Kind: api.ItNum, N: n}, api.Item{Kind: api.ItNum, N: n, Big: true})
	}
	for _, n := range []int{math.MinInt, -2, -1} {
		l = append(l, api.Item{Kind: api.ItBytes, N: n}, api.Item{Kind: api.ItText, N: n})
	}
	return l
}

// right are items that may be, many of them at an edge.
func right() []api.Item {
	l := []api.Item{{Kind: api.ItVar}, {Kind: api.ItBytes, N: 100}, {Kind: api.ItText, N: 200}, {Kind: api.ItText, N: math.MaxInt}}
	for n := 1; n <= 8; n++ {
		l = append(l, api.Item{Kind: api.ItNum, N: n}, api.Item{Kind: api.ItNum, N: n, Big: true})
	}
	for n := range 4 {
		l = append(l, api.Item{Kind: api.ItBytes, N: n}, api.Item{Kind: api.ItText, N: n})
	}
	return l
}

// alike tells whether pieces are alike; nil and no bytes are one.
func alike(a, b []api.Piece) bool {
	return slices.EqualFunc(a, b, func(p, q api.Piece) bool { return p.N == q.N && bytes.Equal(p.B, q.B) })
}

// scanned is what Scan is to answer, by the words.
func scanned(b []byte, plan []api.Item) ([]api.Piece, api.Spot) {
	m := &byWords{b: b}
	var l []api.Piece
	for _, t := range plan {
		if slices.Contains(wrong(), t) {
			m.fails(api.ErrArg)
		}
		p := api.Piece{}
		switch t.Kind {
		case 1:
			p.N = m.num(t.N, t.Big)
		case 2:
			p.N = m.variable()
		case 3:
			p.B = m.take(t.N)
		case 4:
			p.B = m.text(t.N)
		}
		l = append(l, p)
	}
	m.end()
	if m.fault.Err != api.OK {
		return nil, m.fault
	}
	return l, api.Spot{}
}

// checkScan holds what Scan answers against l and s.
func checkScan(t *testing.T, b []byte, plan []api.Item, l []api.Piece, s api.Spot) {
	t.Helper()
	got, spot := Scan(b, plan)
	if spot != s || !alike(got, l) {
		t.Errorf("Scan(%v, %v): %v, %v, not %v, %v", b, plan, got, spot, l, s)
	}
}

// checkLay holds what Lay answers against b; nothing is to come with ErrArg.
func checkLay(t *testing.T, plan []api.Item, l []api.Piece, b []byte, e api.Errno) {
	t.Helper()
	if got, err := Lay(plan, l); err != e || !bytes.Equal(got, b) {
		t.Errorf("Lay(%v, %v): %v, %d, not %v, %d", plan, l, got, err, b, e)
	}
}

// The chapter's example.
func TestPlanExample(t *testing.T) {
	b, l := []byte{1, 2, 2, 97, 98}, []api.Piece{{N: 258}, {B: []byte("ab")}}
	checkScan(t, b, example(), l, api.Spot{})
	checkLay(t, example(), l, b, api.OK)
}

// P4.3: a plan of all kinds, both ways.
func TestPlanOfAllKinds(t *testing.T) {
	plan, l, b := mixed()
	checkScan(t, b, plan, l, api.Spot{})
	checkLay(t, plan, l, b, api.OK)
	for i := range plan {
		laid, e := Lay(plan[:i], l[:i])
		if e != api.OK || !bytes.HasPrefix(b, laid) {
			t.Errorf("the first %d items: %v, %d", i, laid, e)
		}
		checkScan(t, laid, plan[:i], l[:i], api.Spot{})
	}
}

// P4.3: no items read no bytes, and leave all that there are.
func TestNoItems(t *testing.T) {
	checkScan(t, nil, nil, nil, api.Spot{})
	checkScan(t, []byte{}, []api.Item{}, nil, api.Spot{})
	checkScan(t, []byte{0}, nil, nil, api.Spot{Err: api.ErrForm})
	checkScan(t, rising(9), nil, nil, api.Spot{Err: api.ErrForm})
	checkLay(t, nil, nil, nil, api.OK)
	checkLay(t, []api.Item{}, []api.Piece{}, nil, api.OK)
	checkLay(t, nil, []api.Piece{{}}, nil, api.ErrArg)
	checkLay(t, []api.Item{{Kind: api.ItBytes}}, nil, nil, api.ErrArg)
}

// P4.3: no bytes suit items that need none.
func TestNoBytes(t *testing.T) {
	none := api.Item{Kind: api.ItBytes}
	checkScan(t, nil, []api.Item{none, none, none}, []api.Piece{{}, {}, {}}, api.Spot{})
	checkLay(t, []api.Item{none, none}, []api.Piece{{}, {B: []byte{}}}, nil, api.OK)
	for _, x := range right() {
		if x != none {
			checkScan(t, nil, []api.Item{none, x}, nil, api.Spot{Err: api.ErrEnd})
		}
	}
}

// P4.3: a fault of each item, at the byte where it begins.
func TestScanFaults(t *testing.T) {
	for _, x := range []struct {
		item api.Item
		b    []byte
		want api.Errno
	}{
		{api.Item{Kind: api.ItNum, N: 1}, nil, api.ErrEnd},
		{api.Item{Kind: api.ItNum, N: 8, Big: true}, rising(7), api.ErrEnd},
		{api.Item{Kind: api.ItVar}, nil, api.ErrEnd},
		{api.Item{Kind: api.ItVar}, []byte{128, 129}, api.ErrEnd},
		{api.Item{Kind: api.ItVar}, []byte{128, 0}, api.ErrForm},
		{api.Item{Kind: api.ItVar}, full(12, 255), api.ErrForm},
		{api.Item{Kind: api.ItBytes, N: 1}, nil, api.ErrEnd},
		{api.Item{Kind: api.ItBytes, N: 5}, rising(4), api.ErrEnd},
		{api.Item{Kind: api.ItBytes, N: math.MaxInt}, rising(4), api.ErrEnd},
		{api.Item{Kind: api.ItText, N: 5}, nil, api.ErrEnd},
		{api.Item{Kind: api.ItText, N: 5}, []byte{129}, api.ErrEnd},
		{api.Item{Kind: api.ItText, N: 5}, []byte{129, 0, 7}, api.ErrForm},
		{api.Item{Kind: api.ItText, N: 0}, []byte{1, 7}, api.ErrLong},
		{api.Item{Kind: api.ItText, N: 2}, []byte{3, 7, 7, 7}, api.ErrLong},
		{api.Item{Kind: api.ItText, N: 2}, []byte{3}, api.ErrLong},
		{api.Item{Kind: api.ItText, N: math.MaxInt}, full(9, 255, 1, 7), api.ErrLong},
		{api.Item{Kind: api.ItText, N: math.MaxInt}, full(8, 255, 127, 7), api.ErrEnd},
		{api.Item{Kind: api.ItText, N: 3}, []byte{3, 7, 7}, api.ErrEnd},
	} {
		checkScan(t, x.b, []api.Item{x.item}, nil, api.Spot{Err: x.want})
		plan := append(example(), x.item, api.Item{Kind: api.ItVar})
		checkScan(t, append([]byte{1, 2, 2, 97, 98}, x.b...), plan, nil, api.Spot{At: 5, Err: x.want})
	}
}

// P4.3: an item that may not be is a fault where it begins, whatever stands there; but the first fault is told.
func TestScanItemsThatMayNotBe(t *testing.T) {
	for _, x := range wrong() {
		for _, tail := range [][]byte{nil, {0}, {3, 7}, {128, 0}, rising(40)} {
			checkScan(t, tail, []api.Item{x}, nil, api.Spot{Err: api.ErrArg})
			plan := append(example(), x, api.Item{Kind: api.ItVar})
			checkScan(t, append([]byte{1, 2, 2, 97, 98}, tail...), plan, nil, api.Spot{At: 5, Err: api.ErrArg})
		}
		checkScan(t, []byte{1, 2, 2, 97}, append(example(), x), nil, api.Spot{At: 2, Err: api.ErrEnd})
		checkScan(t, []byte{1, 2, 4, 97, 98, 99, 100}, append(example(), x), nil, api.Spot{At: 2, Err: api.ErrLong})
		checkScan(t, []byte{128, 0}, []api.Item{{Kind: api.ItVar}, x}, nil, api.Spot{Err: api.ErrForm})
		checkScan(t, nil, []api.Item{x, {Kind: api.ItVar}}, nil, api.Spot{Err: api.ErrArg})
	}
}

// P4.3: bytes behind the plan are a fault where it ends.
func TestScanBehind(t *testing.T) {
	plan, _, b := mixed()
	for n := 1; n < 5; n++ {
		checkScan(t, append(slices.Clone(b), make([]byte, n)...), plan, nil, api.Spot{At: len(b), Err: api.ErrForm})
	}
	checkScan(t, []byte{1, 2, 2, 97, 98, 0}, example(), nil, api.Spot{At: 5, Err: api.ErrForm})
	checkScan(t, []byte{1, 2, 1, 97, 98}, example(), nil, api.Spot{At: 4, Err: api.ErrForm})
}

// P4.3: plans and bytes of all kinds, held against the words.
func TestScanByWords(t *testing.T) {
	c, items := chance(2), append(right(), right()...)
	items = append(items, wrong()[:8]...)
	read := 0
	for range 60000 {
		plan := make([]api.Item, c.below(5))
		for i := range plan {
			plan[i] = items[c.below(len(items))]
		}
		b := c.some(c.below(14))
		l, s := scanned(b, plan)
		checkScan(t, b, plan, l, s)
		if s == (api.Spot{}) && len(b) > 0 {
			checkLay(t, plan, l, b, api.OK)
			read++
		}
	}
	if read < 1000 {
		t.Errorf("only %d were read", read)
	}
}

// P4.3: short plans and short bytes, each with each.
func TestScanEach(t *testing.T) {
	items := []api.Item{{Kind: api.ItNum, N: 1}, {Kind: api.ItNum, N: 2, Big: true}, {Kind: api.ItVar}, {Kind: api.ItBytes}, {Kind: api.ItBytes, N: 1}, {Kind: api.ItText}, {Kind: api.ItText, N: 1}, {Kind: api.ItText, N: 2}, {Kind: 0}, {Kind: api.ItBytes, N: -1}, {Kind: api.ItText, N: -1}, {Kind: api.ItNum}}
	plans := [][]api.Item{nil}
	for _, x := range items {
		plans = append(plans, []api.Item{x})
		for _, y := range items {
			plans = append(plans, []api.Item{x, y})
		}
	}
	for k := range 4 * 4 * 4 * 4 {
		var b []byte
		for i := range 4 {
			b = append(b, []byte{0, 1, 2, 128}[k>>(2*i)&3])
		}
		for n := range len(b) + 1 {
			for _, plan := range plans {
				l, s := scanned(b[:n], plan)
				checkScan(t, b[:n], plan, l, s)
			}
		}
	}
}

// P4.3: of a varint or bytes, what an item has that isn't told of its kind tells nothing.
func TestItemsOtherFields(t *testing.T) {
	checkScan(t, []byte{172, 2}, []api.Item{{Kind: api.ItVar, N: 1, Big: true}}, []api.Piece{{N: 300}}, api.Spot{})
	checkLay(t, []api.Item{{Kind: api.ItVar, N: -1}}, []api.Piece{{N: 300}}, []byte{172, 2}, api.OK)
	checkScan(t, []byte{1, 2}, []api.Item{{Kind: api.ItBytes, N: 2, Big: true}}, []api.Piece{{B: []byte{1, 2}}}, api.Spot{})
	checkLay(t, []api.Item{{Kind: api.ItText, N: 2, Big: true}}, []api.Piece{{B: []byte{1, 2}}}, []byte{2, 1, 2}, api.OK)
}

// P4.3: there are to be just as many pieces as items.
func TestLayCounts(t *testing.T) {
	plan, l, _ := mixed()
	for n := range len(plan) {
		checkLay(t, plan, l[:n], nil, api.ErrArg)
		checkLay(t, plan[:n], l, nil, api.ErrArg)
	}
	checkLay(t, plan, append(slices.Clone(l), api.Piece{}), nil, api.ErrArg)
	checkLay(t, append(slices.Clone(plan), api.Item{Kind: api.ItBytes}), l, nil, api.ErrArg)
}

// P4.3: no item that may not be is laid, wherever it stands.
func TestLayItemsThatMayNotBe(t *testing.T) {
	for _, x := range wrong() {
		for _, p := range []api.Piece{{}, {N: 1}, {B: []byte{1}}} {
			checkLay(t, []api.Item{x}, []api.Piece{p}, nil, api.ErrArg)
			checkLay(t, []api.Item{{Kind: api.ItVar}, x}, []api.Piece{{N: 5}, p}, nil, api.ErrArg)
			checkLay(t, []api.Item{x, {Kind: api.ItVar}}, []api.Piece{p, {N: 5}}, nil, api.ErrArg)
		}
	}
}

// P4.3: a number that has just so many bytes is laid, one that has more is none of its item.
func TestLayNumbers(t *testing.T) {
	for size := 1; size <= 8; size++ {
		for _, high := range []bool{true, false} {
			plan := []api.Item{{Kind: api.ItNum, N: size, Big: high}}
			checkLay(t, plan, []api.Piece{{N: math.MaxUint64 >> (64 - 8*size)}}, bytes.Repeat([]byte{255}, size), api.OK)
			checkLay(t, plan, []api.Piece{{}}, make([]byte, size), api.OK)
			for bit := 8 * size; bit < 64; bit++ {
				checkLay(t, plan, []api.Piece{{N: 1 << bit}}, nil, api.ErrArg)
				checkLay(t, plan, []api.Piece{{N: 1<<bit | 1}}, nil, api.ErrArg)
			}
			one := make([]byte, size)
			if high {
				one[size-1] = 7
			} else {
				one[0] = 7
			}
			checkLay(t, plan, []api.Piece{{N: 7}}, one, api.OK)
		}
	}
}

// P4.3: a piece that isn't one of its item.
func TestLayPiecesOfOthers(t *testing.T) {
	for _, x := range []struct {
		item api.Item
		bad  []api.Piece
	}{
		{api.Item{Kind: api.ItNum, N: 4}, []api.Piece{{N: 1, B: []byte{1}}, {B: []byte{1, 2, 3, 4}}, {B: []byte{0}}, {N: 1 << 32}, {N: math.MaxUint64}}},
		{api.Item{Kind: api.ItNum, N: 8}, []api.Piece{{N: 1, B: []byte{1}}, {B: rising(8)}}},
		{api.Item{Kind: api.ItVar}, []api.Piece{{N: 1, B: []byte{1}}, {B: []byte{5}}}},
		{api.Item{Kind: api.ItBytes}, []api.Piece{{N: 1}, {B: []byte{1}}}},
		{api.Item{Kind: api.ItBytes, N: 3}, []api.Piece{{}, {B: rising(2)}, {B: rising(4)}, {N: 1, B: rising(3)}, {N: 3}}},
		{api.Item{Kind: api.ItBytes, N: math.MaxInt}, []api.Piece{{}, {B: rising(2)}}},
		{api.Item{Kind: api.ItText}, []api.Piece{{N: 1}, {B: []byte{1}}}},
		{api.Item{Kind: api.ItText, N: 3}, []api.Piece{{N: 1}, {N: 3, B: rising(3)}, {B: rising(4)}, {B: rising(400)}}},
	} {
		for _, p := range x.bad {
			checkLay(t, []api.Item{x.item}, []api.Piece{p}, nil, api.ErrArg)
			checkLay(t, append(example(), x.item), []api.Piece{{N: 1}, {}, p}, nil, api.ErrArg)
		}
	}
}

// P4.3: texts up to the most, none and those whose length has two bytes among them.
func TestLayTexts(t *testing.T) {
	for _, n := range []int{0, 1, 3, 127, 128, 300} {
		l := []api.Piece{{B: rising(n)}}
		want := append(binary.AppendUvarint(nil, uint64(n)), rising(n)...)
		for _, most := range []int{n, n + 1, math.MaxInt} {
			plan := []api.Item{{Kind: api.ItText, N: most}}
			checkLay(t, plan, l, want, api.OK)
			checkScan(t, want, plan, l, api.Spot{})
		}
	}
}

// made is a piece of an item that may be, by chance.
func made(c *chance, t api.Item) api.Piece {
	n := uint64(c.below(1<<31))<<32 ^ uint64(c.below(1<<31))<<c.below(33)
	switch t.Kind {
	case api.ItNum:
		return api.Piece{N: n >> (64 - 8*t.N)}
	case api.ItVar:
		return api.Piece{N: n >> c.below(64)}
	case api.ItBytes:
		return api.Piece{B: c.some(t.N)}
	}
	return api.Piece{B: c.some(c.below(min(t.N, 300) + 1))}
}

// P4.4: what is laid is read as it was; cut off anywhere it ends too early; with bytes behind it, it is of no form.
func TestLaidIsRead(t *testing.T) {
	c, items := chance(4), right()
	for range 600 {
		plan, l := make([]api.Item, c.below(7)), []api.Piece{}
		for i := range plan {
			plan[i] = items[c.below(len(items))]
			l = append(l, made(&c, plan[i]))
		}
		b, e := Lay(plan, l)
		if e != api.OK {
			t.Fatalf("Lay(%v, %v): %d", plan, l, e)
		}
		checkScan(t, b, plan, l, api.Spot{})
		for n := range b {
			got, s := Scan(b[:n], plan)
			if s.Err != api.ErrEnd || s.At > n || len(got) != 0 {
				t.Fatalf("%v of %v, cut off at %d: %v, %v", plan, b, n, got, s)
			}
		}
		for _, x := range []byte{0, 1, 127, 128, 255} {
			checkScan(t, append(slices.Clone(b), x), plan, nil, api.Spot{At: len(b), Err: api.ErrForm})
		}
	}
}

// P4.4: what is read is laid to the very bytes, also where a byte was turned.
func TestReadIsLaid(t *testing.T) {
	plan, _, b := mixed()
	read := 0
	for at := range b {
		for x := range 256 {
			c := slices.Clone(b)
			c[at] = byte(x)
			l, s := Scan(c, plan)
			if s != (api.Spot{}) {
				continue
			}
			read++
			checkLay(t, plan, l, c, api.OK)
		}
	}
	if read < 1000 {
		t.Errorf("only %d were read", read)
	}
}

// P4.4: of long bytes, too.
func TestLong(t *testing.T) {
	plan := []api.Item{{Kind: api.ItBytes, N: 1 << 20}, {Kind: api.ItText, N: 1 << 20}}
	l := []api.Piece{{B: rising(1 << 20)}, {B: rising(1 << 20)}}
	b, e := Lay(plan, l)
	if e != api.OK || len(b) != 2<<20+3 {
		t.Fatal(len(b), e)
	}
	if got, s := Scan(b, plan); s != (api.Spot{}) || !alike(got, l) {
		t.Error(s)
	}
	if _, s := Scan(b[:len(b)-1], plan); s != (api.Spot{At: 1 << 20, Err: api.ErrEnd}) {
		t.Error(s)
	}
}

// P4.5: what is handed to Scan stays, its room too; what is answered is new memory.
func TestScanShares(t *testing.T) {
	plan, l, b := mixed()
	whole, items := append(slices.Clone(b), bytes.Repeat([]byte{77}, 20)...), append(slices.Clone(plan), api.Item{Kind: 77})
	was, itemsWere := slices.Clone(whole), slices.Clone(items)
	first, _ := Scan(whole[:len(b)], items[:len(plan)])
	second, _ := Scan(whole[:len(b)], items[:len(plan)])
	for i := range first {
		spoil(first[i].B)
		for k := i + 1; k < len(first); k++ {
			if !bytes.Equal(first[k].B, l[k].B) {
				t.Errorf("piece %d shares with piece %d", k, i)
			}
		}
	}
	room := first[:cap(first)]
	for i := range room {
		room[i] = api.Piece{N: 77}
	}
	if !bytes.Equal(whole, was) || !slices.Equal(items, itemsWere) {
		t.Errorf("handed in: %v, %v", whole, items)
	}
	spoil(whole)
	if !alike(second, l) {
		t.Errorf("the second answer was spoilt: %v", second)
	}
}

// P4.5: what is handed to Lay stays, its room too; what is answered is new memory.
func TestLayShares(t *testing.T) {
	plan, l, b := mixed()
	bodies := []byte("xyabcroom")
	l[2].B, l[3].B = bodies[:2], bodies[2:5]
	first, _ := Lay(plan, l)
	second, _ := Lay(plan, l)
	again, wantPlan := slices.Clone(l), slices.Clone(plan)
	spoil(first)
	if !slices.Equal(plan, wantPlan) || !alike(l, again) || string(bodies) != "xyabcroom" {
		t.Errorf("handed in: %v, %v, %s", plan, l, bodies)
	}
	spoil(bodies)
	if !bytes.Equal(second, b) {
		t.Errorf("the second answer was spoilt: %v", second)
	}
	// A text alone, and bytes alone, as these might be handed through.
	for _, kind := range []int{api.ItBytes, api.ItText} {
		body := append(rising(4), 77, 77, 77)
		got, _ := Lay([]api.Item{{Kind: kind, N: 4}}, []api.Piece{{B: body[:4]}})
		spoil(got)
		if !bytes.Equal(body, append(rising(4), 77, 77, 77)) {
			t.Errorf("kind %d: %v", kind, body)
		}
	}
}
