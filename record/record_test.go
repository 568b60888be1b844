package record

import (
	"bytes"
	"encoding/binary"
	"hash/crc32"
	"math"
	"math/bits"
	"slices"
	"testing"

	"wayleave/api"
)

// summed is head with its sum behind it, by another's sum.
func summed(head []byte) []byte {
	sum := crc32.Checksum(head, crc32.MakeTable(crc32.Castagnoli))
	return binary.LittleEndian.AppendUint32(slices.Clone(head), sum)
}

// laid is the record by the words, of a body however long.
func laid(body []byte) []byte {
	return summed(append(binary.AppendUvarint(nil, uint64(len(body))), body...))
}

// inRow is the bodies' records by the words, one behind the other.
func inRow(l ...[]byte) []byte {
	var b []byte
	for _, body := range l {
		b = append(b, laid(body)...)
	}
	return b
}

// text is n bytes of which those near to each other differ.
func text(n int) []byte {
	b := make([]byte, n)
	for i := range b {
		b[i] = byte(i*i*7 + i*31 + i>>3 + 5)
	}
	return b
}

// lengths are those of bodies: all small ones, and those at which a varint gets a byte more.
func lengths() []int {
	l := []int{254, 255, 256, 257, 1000, 16382, 16383, 16384, 16385, 65535, 65536, api.MaxRecord - 1, api.MaxRecord}
	for n := range 140 {
		l = append(l, n)
	}
	return l
}

// rows are lists of bodies: none, one, many, with empty ones first, between and last, and with long ones.
func rows() [][][]byte {
	return [][][]byte{
		nil,
		{},
		{nil},
		{{}, nil, {}},
		{{0}},
		{text(1)},
		{text(127)},
		{text(128)},
		{[]byte("one"), nil, text(200), {0}},
		{nil, text(3), nil, text(130), text(127), nil},
		{text(5), text(5), text(5)},
		{{1, 0}, {0, 1}, {128, 0}, {255, 255, 255, 255, 255, 255, 255, 255, 255, 255, 1}},
	}
}

// alike tells whether bodies are alike; nil and no bytes are one.
func alike(a, b [][]byte) bool { return slices.EqualFunc(a, b, bytes.Equal) }

// checkNext holds what Next answers against body, n and e.
func checkNext(t *testing.T, b, body []byte, n int, e api.Errno) {
	t.Helper()
	if got, size, err := Next(b); err != e || size != n || !bytes.Equal(got, body) {
		t.Errorf("Next(%v): %v, %d, %d, not %v, %d, %d", short(b), short(got), size, err, short(body), n, e)
	}
}

// checkAll holds what All answers against l, n and e.
func checkAll(t *testing.T, b []byte, l [][]byte, n int, e api.Errno) {
	t.Helper()
	if got, size, err := All(b); err != e || size != n || !alike(got, l) {
		t.Errorf("All(%v): %d bodies, %d, %d, not %d, %d, %d", short(b), len(got), size, err, len(l), n, e)
	}
}

// short is b, or what is told of it where it is long.
func short(b []byte) []byte { return b[:min(len(b), 40)] }

// P5.1: records that are known, byte by byte; the chapter's example is the first one.
func TestPutKnown(t *testing.T) {
	for _, x := range []struct{ body, want []byte }{
		{nil, []byte{0, 0x51, 0x53, 0x7d, 0x52}},
		{[]byte{}, []byte{0, 0x51, 0x53, 0x7d, 0x52}},
		{[]byte{0}, []byte{1, 0, 0xa5, 0xef, 0xc3, 0xe2}},
		{[]byte("a"), []byte{1, 'a', 0xc4, 0xff, 0x6e, 0x71}},
		{[]byte{255}, []byte{1, 255, 0xf4, 0xbc, 0xbe, 0x4f}},
		{[]byte("one"), []byte{3, 'o', 'n', 'e', 0x6d, 0xd3, 0xb5, 0x60}},
		{[]byte("123456789"), []byte{9, '1', '2', '3', '4', '5', '6', '7', '8', '9', 0xe0, 0x9a, 0xb2, 0x36}},
	} {
		if b, e := Put(x.body); e != api.OK || !bytes.Equal(b, x.want) {
			t.Errorf("Put(%v): %x, %d, not %x", x.body, b, e, x.want)
		}
		checkNext(t, x.want, x.body, len(x.want), api.OK)
		checkAll(t, x.want, [][]byte{x.body}, len(x.want), api.OK)
	}
}

// P5.1: the beginnings and ends of long records that are known.
func TestPutKnownLong(t *testing.T) {
	for _, x := range []struct {
		n          int
		head, tail []byte
	}{
		{127, []byte{127}, []byte{0x40, 0x34, 0xdc, 0xcc}},
		{128, []byte{128, 1}, []byte{0xf9, 0x55, 0x57, 0xf8}},
		{16383, []byte{255, 127}, []byte{0xb5, 0x4b, 0x3c, 0xaa}},
		{16384, []byte{128, 128, 1}, []byte{0xcb, 0x9a, 0x61, 0x83}},
		{api.MaxRecord, []byte{128, 128, 64}, []byte{0xea, 0xff, 0x58, 0x37}},
	} {
		body := bytes.Repeat([]byte("x"), x.n)
		want := slices.Concat(x.head, body, x.tail)
		if b, e := Put(body); e != api.OK || !bytes.Equal(b, want) {
			t.Errorf("%d bytes: %d, %d, not %d", x.n, len(b), e, len(want))
		}
		checkNext(t, want, body, len(want), api.OK)
	}
}

// P5.1, P5.2: bodies of all lengths at edges: put as the words say, as long as Size tells, and read as they were.
func TestPutIsNext(t *testing.T) {
	for _, n := range lengths() {
		for _, body := range [][]byte{text(n), make([]byte, n), bytes.Repeat([]byte{255}, n)} {
			want := laid(body)
			b, e := Put(body)
			if e != api.OK || !bytes.Equal(b, want) {
				t.Errorf("Put of %d bytes: %v, %d", n, short(b), e)
			}
			if size := Size(n); size != len(want) {
				t.Errorf("Size(%d): %d, not %d", n, size, len(want))
			}
			checkNext(t, want, body, len(want), api.OK)
			checkNext(t, append(want, 128, 0, 7), body, len(want), api.OK)
		}
	}
}

// P5.1: how many bytes a record has.
func TestSize(t *testing.T) {
	for _, x := range []struct{ n, want int }{
		{0, 5}, {1, 6}, {126, 131}, {127, 132}, {128, 134}, {129, 135}, {200, 206}, {16383, 16389}, {16384, 16391}, {16385, 16392}, {65535, 65542}, {api.MaxRecord - 1, 1<<20 + 6}, {api.MaxRecord, 1<<20 + 7},
	} {
		if size := Size(x.n); size != x.want {
			t.Errorf("Size(%d): %d, not %d", x.n, size, x.want)
		}
	}
}

// P5.1: a body that is longer than may be gives nothing, in whatever row it stands.
func TestLong(t *testing.T) {
	for _, n := range []int{api.MaxRecord + 1, api.MaxRecord + 2, 2 * api.MaxRecord, 3*api.MaxRecord + 5} {
		long := make([]byte, n)
		if b, e := Put(long); e != api.ErrLong || len(b) != 0 {
			t.Errorf("Put of %d bytes: %d, %d", n, len(b), e)
		}
		for i, l := range [][][]byte{
			{long}, {long, nil}, {nil, long}, {text(3), long, text(4)}, {text(3), text(4), long}, {long, long}, {make([]byte, api.MaxRecord), long},
		} {
			if b, e := Row(l); e != api.ErrLong || len(b) != 0 {
				t.Errorf("row %d with %d bytes: %d, %d", i, n, len(b), e)
			}
		}
	}
}

// P5.1, P5.3: rows of none, one and many are laid as the words say, and read as they were.
func TestRow(t *testing.T) {
	for i, l := range rows() {
		want := inRow(l...)
		if b, e := Row(l); e != api.OK || !bytes.Equal(b, want) {
			t.Errorf("row %d: %v, %d, not %v", i, b, e, want)
		}
		checkAll(t, want, l, len(want), api.OK)
	}
}

// P5.1, P5.3: bodies that together are longer than one may be are a row like others.
func TestRowOfLong(t *testing.T) {
	most := text(api.MaxRecord)
	l := [][]byte{most, nil, most, text(128), most}
	want := inRow(l...)
	if b, e := Row(l); e != api.OK || !bytes.Equal(b, want) {
		t.Errorf("%d bytes, %d, not %d", len(b), e, len(want))
	}
	checkAll(t, want, l, len(want), api.OK)
	checkAll(t, want[:len(want)-1], l[:4], len(inRow(l[:4]...)), api.ErrEnd)
}

// P5.1, P5.3: many records.
func TestRowOfMany(t *testing.T) {
	var l [][]byte
	for i := range 20000 {
		l = append(l, text(i%7))
	}
	want := inRow(l...)
	if b, e := Row(l); e != api.OK || !bytes.Equal(b, want) {
		t.Errorf("%d bytes, %d, not %d", len(b), e, len(want))
	}
	checkAll(t, want, l, len(want), api.OK)
}

// refusal is bytes with which no record begins, and why.
type refusal struct {
	b []byte
	e api.Errno
}

// refused are such as are refused for each reason.
func refused() []refusal {
	one := laid([]byte("one"))
	return []refusal{
		{[]byte{128}, api.ErrEnd},
		{[]byte{255, 255}, api.ErrEnd},
		{bytes.Repeat([]byte{255}, 9), api.ErrEnd},
		{[]byte{128, 0}, api.ErrForm},
		{[]byte{129, 128, 0, 1, 2, 3, 4}, api.ErrForm},
		{append(bytes.Repeat([]byte{255}, 9), 2), api.ErrForm},
		{append(bytes.Repeat([]byte{128}, 10), 1), api.ErrForm},
		{summed([]byte{128, 0}), api.ErrForm},
		{summed([]byte{131, 0, 'o', 'n', 'e'}), api.ErrForm},
		{[]byte{129, 128, 64}, api.ErrLong},
		{[]byte{255, 255, 127, 1, 2, 3, 4}, api.ErrLong},
		{laid(make([]byte, api.MaxRecord+1)), api.ErrLong},
		{[]byte{128, 128, 64}, api.ErrEnd},
		{[]byte{0}, api.ErrEnd},
		{[]byte{0, 0x51, 0x53, 0x7d}, api.ErrEnd},
		{[]byte{1, 'a', 0xc4, 0xff, 0x6e}, api.ErrEnd},
		{[]byte{200}, api.ErrEnd},
		{one[:len(one)-1], api.ErrEnd},
		{laid(text(128))[:133], api.ErrEnd},
		{[]byte{0, 0, 0, 0, 0}, api.ErrSum},
		{[]byte{0, 0x52, 0x7d, 0x53, 0x51}, api.ErrSum},
		{append([]byte{1}, one...), api.ErrSum},
		{[]byte{9, '1', '2', '3', '4', '5', '6', '7', '8', '9', 0x83, 0x92, 0x06, 0xe3}, api.ErrSum},
	}
}

// P5.2: bytes with which no record begins; of several errors the first one is told.
func TestNextRefuses(t *testing.T) {
	checkNext(t, nil, nil, 0, api.ErrEnd)
	checkNext(t, []byte{}, nil, 0, api.ErrEnd)
	for _, x := range refused() {
		checkNext(t, x.b, nil, 0, x.e)
	}
}

// P5.2: each length that is above what may be is told as such, whatever comes behind it.
func TestNextLong(t *testing.T) {
	for _, n := range []uint64{api.MaxRecord + 1, api.MaxRecord + 2, 1 << 21, 1<<31 - 1, 1 << 31, 1<<32 - 1, 1 << 32, 1<<32 + 3, 1<<62 - 1, 1 << 62, 1<<63 - 5, 1<<63 - 1, 1 << 63, 1<<63 + 3, math.MaxUint64 - 4, math.MaxUint64} {
		b := binary.AppendUvarint(nil, n)
		checkNext(t, b, nil, 0, api.ErrLong)
		checkNext(t, append(b, "one and more"...), nil, 0, api.ErrLong)
		checkNext(t, summed(append(b, "one"...)), nil, 0, api.ErrLong)
		for i := range binary.AppendUvarint(nil, n) {
			checkNext(t, b[:i], nil, 0, api.ErrEnd)
		}
	}
}

// P5.2, P5.4: a record that is cut off anywhere ends too early.
func TestNextCut(t *testing.T) {
	for _, n := range []int{0, 1, 3, 127, 128, 129, 300, 16384} {
		b := laid(text(n))
		for i := range b {
			checkNext(t, b[:i], nil, 0, api.ErrEnd)
		}
	}
	b := laid(text(api.MaxRecord))
	for _, i := range []int{0, 1, 2, 3, 4, 1000, len(b) - 5, len(b) - 4, len(b) - 1} {
		checkNext(t, b[:i], nil, 0, api.ErrEnd)
	}
}

// P5.2: a sum that is another one, in whichever of its bits.
func TestNextSum(t *testing.T) {
	for _, n := range []int{0, 1, 4, 127, 128} {
		for i := range 32 {
			b := laid(text(n))
			b[len(b)-4+i/8] ^= 1 << (i % 8)
			checkNext(t, b, nil, 0, api.ErrSum)
			checkNext(t, append(b, laid(nil)...), nil, 0, api.ErrSum)
			checkAll(t, append(laid(text(2)), b...), [][]byte{text(2)}, Size(2), api.ErrSum)
		}
		b := laid(text(n))
		slices.Reverse(b[len(b)-4:])
		checkNext(t, b, nil, 0, api.ErrSum)
	}
}

// P5.2: the sum is that of the length, too, and of nothing else than both.
func TestNextSumOfBoth(t *testing.T) {
	for _, n := range []int{1, 3, 127, 128} {
		body, b := text(n), laid(text(n))
		head := b[:len(b)-4]
		for _, other := range [][]byte{body, head[:len(head)-1], append(slices.Clone(head), 0), head[1:], nil} {
			copy(b[len(b)-4:], summed(other)[len(other):])
			checkNext(t, b, nil, 0, api.ErrSum)
		}
	}
}

// P5.3: no bytes are no records; else the error is that of what stands behind them.
func TestAllBehind(t *testing.T) {
	checkAll(t, nil, nil, 0, api.OK)
	checkAll(t, []byte{}, nil, 0, api.OK)
	for _, l := range rows() {
		b := inRow(l...)
		for _, x := range refused() {
			checkAll(t, slices.Concat(b, x.b), l, len(b), x.e)
		}
	}
}

// P5.3: behind the first bytes that are no record, none is read any more.
func TestAllStops(t *testing.T) {
	bad := laid([]byte("two"))
	bad[2] ^= 1
	b := slices.Concat(laid([]byte("one")), bad, laid([]byte("three")))
	checkAll(t, b, [][]byte{[]byte("one")}, 8, api.ErrSum)
	checkAll(t, b[8:], nil, 0, api.ErrSum)
	b = slices.Concat(laid([]byte("one")), []byte{128, 0}, laid([]byte("three")))
	checkAll(t, b, [][]byte{[]byte("one")}, 8, api.ErrForm)
}

// P5.4: rows, cut off at each place, are read as far as they stand there wholly.
func TestAllCut(t *testing.T) {
	for _, l := range rows() {
		b := inRow(l...)
		many, at := 0, 0
		for i := range len(b) + 1 {
			if many < len(l) && i == at+len(laid(l[many])) {
				many, at = many+1, i
			}
			want := api.ErrEnd
			if i == at {
				want = api.OK
			}
			checkAll(t, b[:i], l[:many], at, want)
		}
	}
}

// told is what Next is to answer, by the words alone.
func told(b []byte) ([]byte, int, api.Errno) {
	n, k := binary.Uvarint(b)
	switch {
	case k == 0:
		return nil, 0, api.ErrEnd
	case k < 0 || !bytes.Equal(binary.AppendUvarint(nil, n), b[:k]):
		return nil, 0, api.ErrForm
	case n > api.MaxRecord:
		return nil, 0, api.ErrLong
	case uint64(len(b)) < uint64(k)+n+4:
		return nil, 0, api.ErrEnd
	}
	body := b[k : k+int(n)]
	if r := laid(body); !bytes.HasPrefix(b, r) {
		return nil, 0, api.ErrSum
	}
	return body, k + int(n) + 4, api.OK
}

// chance is a row of numbers that looks like chance, and is the same each time.
type chance uint64

func (c *chance) below(n int) int {
	*c = *c*6364136223846793005 + 1442695040888963407
	return int(uint64(*c>>33) % uint64(n))
}

// some are bytes of which many are records, and many others are lengths.
func (c *chance) some() []byte {
	var b []byte
	for range c.below(6) {
		switch c.below(4) {
		case 0, 1:
			b = append(b, laid(text(c.below(9)))...)
		case 2:
			b = append(b, []byte{0, 1, 2, 127, 128, 129, 255}[c.below(7)])
		default:
			b = append(b, laid(text(125+c.below(6)))...)
		}
	}
	if len(b) > 0 && c.below(3) == 0 {
		b[c.below(len(b))] ^= 1 << c.below(8)
	}
	return b[:len(b)-c.below(min(len(b), 7)+1)]
}

// P5.2, P5.3: bytes of all kinds, held against the words.
func TestReadByWords(t *testing.T) {
	c := chance(5)
	for range 30000 {
		b := c.some()
		body, n, e := told(b)
		checkNext(t, b, body, n, e)
		var l [][]byte
		at := 0
		for e == api.OK {
			l, at = append(l, body), at+n
			body, n, e = told(b[at:])
		}
		if at == len(b) {
			e = api.OK
		}
		checkAll(t, b, l, at, e)
	}
}

// P5.2: each one, two and three bytes.
func TestNextOfFewBytes(t *testing.T) {
	for x := range 256 {
		for y := range 256 {
			for _, b := range [][]byte{{byte(x)}, {byte(x), byte(y)}, {byte(x), byte(y), 64}, {byte(x), byte(y), 0, 1, 2}} {
				body, n, e := told(b)
				checkNext(t, b, body, n, e)
			}
		}
	}
}

// turned is b with the pattern's bits turned, from bit at on.
func turned(b []byte, at int, pattern uint32) []byte {
	b = slices.Clone(b)
	for i := range 32 {
		if pattern>>i&1 == 1 {
			b[(at+i)/8] ^= 1 << ((at + i) % 8)
		}
	}
	return b
}

// patterns are such as begin with a turned bit: all short ones, and of each length those with ends alone, with all, and some between.
func patterns() []uint32 {
	l := []uint32{0x82f63b78 | 1, 0x05ec76f1, 0x1edc6f41, 0xedb88321}
	for i := range uint32(64) {
		l = append(l, i<<1|1)
	}
	for n := 1; n <= 32; n++ {
		whole := uint32(1<<n - 1)
		l = append(l, whole, 1<<(n-1)|1)
		for k := range uint32(4) {
			l = append(l, (k*0x9e3779b1+uint32(n)*0x85ebca6b)&whole|1<<(n-1)|1)
		}
	}
	slices.Sort(l)
	return slices.Compact(l)
}

// P5.4: up to 32 bits side by side of a body, turned anywhere, are found, by the one's reading and by the row's.
func TestTurned(t *testing.T) {
	for _, n := range []int{1, 2, 4, 5, 23, 127, 128} {
		body, b := text(n), laid(text(n))
		head := len(b) - 4 - n
		row := inRow([]byte("one"), nil)
		for at := range 8 * n {
			for _, p := range patterns() {
				if at+bits.Len32(p) > 8*n {
					continue
				}
				c := turned(b, 8*head+at, p)
				if bytes.Equal(c[head:head+n], body) {
					t.Fatal("nothing is turned")
				}
				checkNext(t, c, nil, 0, api.ErrSum)
				checkAll(t, slices.Concat(row, c, b), [][]byte{[]byte("one"), nil}, len(row), api.ErrSum)
			}
		}
	}
}

// P5.4: in the midst and at the ends of the longest body, too.
func TestTurnedLong(t *testing.T) {
	b := laid(text(api.MaxRecord))
	for _, at := range []int{0, 1, 8*api.MaxRecord/2 + 3, 8*api.MaxRecord - 32} {
		for _, p := range []uint32{1, 0x80000001, 0xffffffff, 0x05ec76f1} {
			checkNext(t, turned(b, 24+at, p), nil, 0, api.ErrSum)
		}
	}
}

// spoil overwrites bytes, with all the room behind their length.
func spoil(b []byte) {
	b = b[:cap(b)]
	for i := range b {
		b[i] = ^b[i]
	}
}

// P5.5: what is put stays, with the room behind it, and isn't kept.
func TestPutKeepsNothing(t *testing.T) {
	for _, n := range []int{0, 1, 7, 127, 128, 200} {
		whole := text(n + 300)
		was, want := slices.Clone(whole), laid(text(n))
		one, _ := Put(whole[:n])
		row, _ := Row([][]byte{whole[:n], whole[:n]})
		if !bytes.Equal(whole, was) {
			t.Errorf("%d bytes: what was handed in is %v", n, whole)
		}
		spoil(whole)
		if !bytes.Equal(one, want) || !bytes.Equal(row, slices.Concat(want, want)) {
			t.Errorf("%d bytes: what was answered is %v and %v", n, one, row)
		}
		spoil(one)
		spoil(row)
		if spoil(whole); !bytes.Equal(whole, was) {
			t.Errorf("%d bytes: what was handed in was spoilt", n)
		}
	}
}

// P5.5: the list of a row stays, with the room behind it.
func TestRowStays(t *testing.T) {
	all := [][]byte{text(3), nil, text(200), text(9), text(10)}
	for n := range len(all) + 1 {
		if _, e := Row(all[:n]); e != api.OK {
			t.Error(e)
		}
		if !alike(all, [][]byte{text(3), nil, text(200), text(9), text(10)}) {
			t.Fatalf("row of %d bodies: %v", n, all)
		}
	}
}

// P5.5: what is read stays, and what is behind it doesn't count.
func TestReadStays(t *testing.T) {
	row := inRow([]byte("one"), text(130), nil)
	for n := range len(row) + 1 {
		body, size, e := told(row[:n])
		l, at, why := All(slices.Clone(row[:n]))
		for _, behind := range []byte{0, 1, 128, 255} {
			whole := append(slices.Clone(row[:n]), bytes.Repeat([]byte{behind}, 20)...)
			was := slices.Clone(whole)
			checkNext(t, whole[:n], body, size, e)
			checkAll(t, whole[:n], l, at, why)
			if !bytes.Equal(whole, was) {
				t.Errorf("the first %d bytes: what was handed in is %v", n, whole)
			}
		}
	}
}

// P5.5: bodies that are read are new memory, the room behind their length included.
func TestReadIsNew(t *testing.T) {
	bodies := [][]byte{[]byte("one"), nil, text(128), {0}, nil, text(31)}
	b := inRow(bodies...)
	was := slices.Clone(b)
	l, _, _ := All(b)
	other, _, _ := All(b)
	for i := range l {
		next, _, _ := Next(b)
		spoil(next)
		spoil(l[i])
		if !bytes.Equal(b, was) {
			t.Fatalf("body %d spoils what was handed in: %v", i, b)
		}
		if !alike(l[i+1:], bodies[i+1:]) || !alike(other, bodies) {
			t.Errorf("body %d spoils others", i)
		}
	}
	spoil(b)
	if !alike(other, bodies) {
		t.Errorf("bodies are kept in what was handed in: %v", other)
	}
}

// P5.5: the lists of bodies are new, with the room behind them.
func TestListsAreNew(t *testing.T) {
	bodies := [][]byte{[]byte("one"), nil, text(128), {0}, text(31)}
	b := inRow(bodies...)
	first, _, _ := All(b)
	second, _, _ := All(b)
	first = first[:cap(first)]
	for i := range first {
		first[i] = []byte("spoilt")
	}
	third, _, _ := All(b)
	if !alike(second, bodies) || !alike(third, bodies) {
		t.Errorf("%v, %v", second, third)
	}
}

// P5.5: records that are put are new memory, with the room behind them.
func TestPutIsNew(t *testing.T) {
	for _, body := range [][]byte{nil, text(3), text(200)} {
		first, _ := Put(body)
		second, _ := Put(body)
		row, _ := Row([][]byte{body})
		spoil(first)
		third, _ := Put(body)
		for _, b := range [][]byte{second, row, third} {
			if !bytes.Equal(b, laid(body)) {
				t.Errorf("%v: %v", body, b)
			}
		}
	}
}
