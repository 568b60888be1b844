package cursor

import (
	"bytes"
	"encoding/binary"
	"math"
	"slices"
	"testing"

	"wayleave/api"
)

// write is one of a writer's calls, and what it writes where there is room.
type write struct {
	name string
	do   func(w *Writer)
	want []byte
}

func putNum(n uint64, size int, big bool, want ...byte) write {
	return write{"Num", func(w *Writer) { w.Num(n, size, big) }, want}
}

func putVar(n uint64) write {
	return write{"Var", func(w *Writer) { w.Var(n) }, binary.AppendUvarint(nil, n)}
}

func putBytes(b []byte) write {
	return write{"Bytes", func(w *Writer) { w.Bytes(b) }, b}
}

func putText(b []byte) write {
	return write{"Text", func(w *Writer) { w.Text(b) }, append(binary.AppendUvarint(nil, uint64(len(b))), b...)}
}

// writes are calls of all kinds that may be.
func writes() []write {
	const n = 0x0102030405060708
	return []write{
		putNum(258, 2, true, 1, 2), putNum(258, 2, false, 2, 1), putNum(258, 1, true, 2), putNum(258, 1, false, 2),
		putNum(n, 8, true, 1, 2, 3, 4, 5, 6, 7, 8), putNum(n, 8, false, 8, 7, 6, 5, 4, 3, 2, 1),
		putNum(n, 7, true, 2, 3, 4, 5, 6, 7, 8), putNum(n, 3, false, 8, 7, 6), putNum(0, 4, true, 0, 0, 0, 0),
		putNum(math.MaxUint64, 5, true, 255, 255, 255, 255, 255), putNum(1<<63, 7, false, 0, 0, 0, 0, 0, 0, 0),
		putVar(0), putVar(1), putVar(127), putVar(128), putVar(300), putVar(math.MaxInt64), putVar(1 << 63), putVar(math.MaxUint64),
		putBytes(nil), putBytes([]byte{}), putBytes([]byte{0}), putBytes(rising(9)), putBytes(rising(1000)),
		putText(nil), putText([]byte{}), putText([]byte{7}), putText([]byte("abc")), putText(rising(127)), putText(rising(128)), putText(rising(16384)),
	}
}

// badNums are numbers whose size isn't 1 to 8.
func badNums() []write {
	var l []write
	for _, size := range []int{math.MinInt, -8, -1, 0, 9, 16, math.MaxInt} {
		l = append(l, putNum(5, size, true), putNum(5, size, false))
	}
	return l
}

// checkOut holds what w has written against b, twice, as to ask changes nothing.
func checkOut(t *testing.T, name string, w *Writer, b []byte, e api.Errno) {
	t.Helper()
	for range 2 {
		if got, err := w.Out(); !bytes.Equal(got, b) || err != e {
			t.Errorf("%s: %v, %d, not %v, %d", name, got, err, b, e)
		}
	}
}

// P4.2: what each call writes.
func TestWrite(t *testing.T) {
	for _, x := range writes() {
		w := NewWriter(1 << 20)
		x.do(w)
		checkOut(t, x.name, w, x.want, api.OK)
		x.do(w)
		checkOut(t, x.name+" twice", w, append(slices.Clone(x.want), x.want...), api.OK)
	}
}

// P4.2: calls one behind the other, asked for what was written at each.
func TestWriteRow(t *testing.T) {
	w := NewWriter(math.MaxInt)
	var all []byte
	checkOut(t, "new", w, nil, api.OK)
	for range 3 {
		for _, x := range writes() {
			x.do(w)
			all = append(all, x.want...)
			checkOut(t, x.name, w, all, api.OK)
		}
	}
}

// P4.2: what fits the bound just so is written; of what is a byte too long nothing is, and that is a fault.
func TestBound(t *testing.T) {
	for _, x := range writes() {
		for _, ahead := range []int{0, 1, 5, 200} {
			for _, more := range []int{-200, -2, -1, 0, 1, 2} {
				most := ahead + len(x.want) + more
				if most < ahead {
					continue
				}
				w := NewWriter(most)
				w.Bytes(rising(ahead))
				x.do(w)
				if more < 0 {
					checkOut(t, x.name+", too long", w, nil, api.ErrLong)
				} else {
					checkOut(t, x.name, w, append(rising(ahead), x.want...), api.OK)
				}
			}
		}
	}
}

// P4.2: with a bound of 0, or below, nothing is all that can be written.
func TestNoRoom(t *testing.T) {
	for _, most := range []int{0, -1, -5, math.MinInt} {
		checkOut(t, "new", NewWriter(most), nil, api.OK)
		for _, x := range writes() {
			w := NewWriter(most)
			x.do(w)
			if len(x.want) == 0 {
				checkOut(t, x.name, w, nil, api.OK)
			} else {
				checkOut(t, x.name, w, nil, api.ErrLong)
			}
		}
	}
}

// P4.2: of a text where only its length fits, or both but the last byte, nothing is written.
func TestTextBothOrNothing(t *testing.T) {
	for _, n := range []int{1, 3, 127, 128, 300} {
		head := len(binary.AppendUvarint(nil, uint64(n)))
		for room := range head + n {
			w := NewWriter(2 + room)
			w.Bytes([]byte{8, 9})
			w.Text(rising(n))
			checkOut(t, "Text", w, nil, api.ErrLong)
		}
	}
}

// P4.2: a number of a size that isn't 1 to 8 is a fault, told ahead of there being no room.
func TestWriteNumOfOtherSizes(t *testing.T) {
	for _, x := range badNums() {
		for _, most := range []int{-1, 0, 1, 2, 8, 9, 100} {
			w := NewWriter(most)
			x.do(w)
			checkOut(t, "Num", w, nil, api.ErrArg)
			w = NewWriter(most)
			w.Bytes(rising(max(most, 0)))
			x.do(w)
			checkOut(t, "Num, full", w, nil, api.ErrArg)
		}
	}
}

// P4.2: the first fault stays, whatever is written behind it; what would fit isn't written, either.
func TestWriterFaultStays(t *testing.T) {
	for _, x := range slices.Concat(writes(), badNums()) {
		w := NewWriter(4)
		w.Bytes([]byte{1, 2})
		w.Bytes([]byte{3, 4, 5})
		x.do(w)
		checkOut(t, x.name+" behind ErrLong", w, nil, api.ErrLong)
		w = NewWriter(4)
		w.Bytes([]byte{1, 2})
		w.Num(1, 0, true)
		x.do(w)
		checkOut(t, x.name+" behind ErrArg", w, nil, api.ErrArg)
		w = NewWriter(0)
		w.Num(1, 9, true)
		x.do(w)
		x.do(w)
		checkOut(t, x.name+" behind ErrArg, without room", w, nil, api.ErrArg)
	}
}

// P4.2: what is written is read as it was.
func TestWrittenIsRead(t *testing.T) {
	c := chance(3)
	for range 3000 {
		w, r := NewWriter(1000), (*Reader)(nil)
		var plans []func() bool
		for range c.below(9) {
			n, body, high := uint64(c.below(1<<31))<<c.below(34), c.some(c.below(9)), c.below(2) == 0
			switch c.below(4) {
			case 0:
				w.Num(n, 8, high)
				plans = append(plans, func() bool { return r.Num(8, high) == n })
			case 1:
				w.Var(n)
				plans = append(plans, func() bool { return r.Var() == n })
			case 2:
				w.Bytes(body)
				plans = append(plans, func() bool { return bytes.Equal(r.Take(len(body)), body) })
			case 3:
				w.Text(body)
				plans = append(plans, func() bool { return bytes.Equal(r.Text(len(body)), body) })
			}
		}
		b, e := w.Out()
		r = New(b)
		for i, as := range plans {
			if !as() {
				t.Errorf("item %d of %v", i, b)
			}
		}
		if r.End(); e != api.OK || r.Fault() != (api.Spot{}) {
			t.Errorf("%v: %d, %v", b, e, r.Fault())
		}
	}
}

// P4.5: what is handed in stays, its room too, and isn't kept.
func TestWriterKeepsNothing(t *testing.T) {
	for name, call := range map[string]func(w *Writer, b []byte){"Bytes": (*Writer).Bytes, "Text": (*Writer).Text} {
		for _, ahead := range []int{0, 3} {
			whole := append(rising(6), bytes.Repeat([]byte{77}, 20)...)
			was := slices.Clone(whole)
			w := NewWriter(100)
			if ahead > 0 {
				w.Bytes(rising(ahead))
			}
			call(w, whole[:6])
			want, _ := w.Out()
			w.Num(5, 8, true)
			w.Bytes(rising(30))
			if !bytes.Equal(whole, was) {
				t.Errorf("%s: handed in: %v", name, whole)
			}
			spoil(whole)
			if got, e := w.Out(); e != api.OK || !bytes.Equal(got[:len(want)], want) || !bytes.HasSuffix(want, rising(6)) {
				t.Errorf("%s: %v, at first %v", name, got, want)
			}
		}
	}
}

// P4.5: what Out answers is new memory: it changes neither the writer nor another answer, and what is written then doesn't change it.
func TestOutIsNew(t *testing.T) {
	for _, n := range []int{0, 1, 5, 8, 100} {
		w := NewWriter(1000)
		w.Bytes(rising(n))
		first, _ := w.Out()
		second, _ := w.Out()
		spoil(first)
		if !bytes.Equal(second, rising(n)) {
			t.Errorf("%d bytes: the second answer was spoilt: %v", n, second)
		}
		w.Bytes([]byte{1, 2, 3})
		roomy := append(second, 9, 9, 9, 9)
		checkOut(t, "behind", w, append(rising(n), 1, 2, 3), api.OK)
		w.Text([]byte{4})
		if !bytes.Equal(second, rising(n)) || !bytes.Equal(roomy, append(rising(n), 9, 9, 9, 9)) {
			t.Errorf("%d bytes: %v, %v", n, second, roomy)
		}
		checkOut(t, "behind", w, append(rising(n), 1, 2, 3, 1, 4), api.OK)
	}
}

// P4.2: two writers go their own ways.
func TestWritersAreApart(t *testing.T) {
	one, other := NewWriter(3), NewWriter(4)
	one.Var(1)
	other.Var(2)
	one.Bytes(rising(3))
	checkOut(t, "one", one, nil, api.ErrLong)
	checkOut(t, "other", other, []byte{2}, api.OK)
}
