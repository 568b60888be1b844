package link

import (
	"bytes"
	"encoding/binary"
	"math"
	"slices"
	"testing"

	"wayleave/api"
)

// The addresses of most headers here; no byte of them is another's.
var (
	to   = [6]byte{1, 2, 3, 4, 5, 6}
	from = [6]byte{7, 8, 9, 10, 11, 12}
)

// tagTypes are the types of tags, in numbers of the document's own.
var tagTypes = []int{0x8100, 0x88a8}

// nums are numbers of two bytes at their edges, and such as look like something else: among them are tags' types.
var nums = []int{0, 1, 5, 0xff, 0x100, 0x0800, 0x0806, 0x1234, 0x7fff, 0x8000, 0x80ff, 0x8100, 0x86dd, 0x88a8, 0xff00, 0xfffe, 0xffff}

// isTagType tells whether a tag may have the type.
func isTagType(n int) bool { return slices.Contains(tagTypes, n) }

// types are those of nums that a header may have.
func types() []int { return slices.DeleteFunc(slices.Clone(nums), isTagType) }

// laid is the addresses, and numbers behind them, two bytes each.
func laid(dst, src [6]byte, l ...int) []byte {
	b := slices.Concat(dst[:], src[:])
	for _, n := range l {
		b = binary.BigEndian.AppendUint16(b, uint16(n))
	}
	return b
}

// bytesOf are the header's bytes, by the words.
func bytesOf(l api.Link) []byte {
	var row []int
	for _, t := range l.Tags {
		row = append(row, t.Type, t.Tci)
	}
	return laid(l.Dst, l.Src, append(row, l.Type)...)
}

// sizeOf is how many bytes the header has, by the words.
func sizeOf(l api.Link) int { return 14 + 4*len(l.Tags) }

// header is one that may be, read: its tags are made of types and Tcis, one behind the other.
func header(kind int, tags ...int) api.Link {
	l := api.Link{Dst: to, Src: from, Type: kind}
	for pair := range slices.Chunk(tags, 2) {
		l.Tags = append(l.Tags, api.Tag{Type: pair[0], Tci: pair[1]})
	}
	l.At = sizeOf(l)
	return l
}

// headers are such as may be, read: with no tag, one and two, of each type, in each order, of many Tcis and Types.
func headers() []api.Link {
	var l []api.Link
	for _, kind := range types() {
		l = append(l, header(kind))
		for _, t := range tagTypes {
			for _, tci := range nums {
				l = append(l, header(kind, t, tci))
				for _, second := range tagTypes {
					l = append(l, header(kind, t, tci, second, 0xffff-tci), header(kind, t, 0x0fff, second, tci))
				}
			}
		}
	}
	l = append(l, api.Link{At: 14}, api.Link{Type: 0xffff, At: 14})
	all := [6]byte{255, 255, 255, 255, 255, 255}
	// Addresses that look like tags.
	odd := [6]byte{0x81, 0, 0x88, 0xa8, 0x81, 0}
	return append(l, api.Link{Dst: all, Type: 1, At: 14}, api.Link{Src: all, Type: 1, At: 14}, api.Link{Dst: odd, Src: odd, Type: 0x0800, At: 14})
}

// tails are bytes that stand behind a header: none, few, such as look like tags or like a Type, and many.
func tails() [][]byte {
	return [][]byte{nil, {0}, {0x81}, {0x81, 0}, {0x88, 0xa8, 0, 0, 8, 0}, {8, 0}, {255, 255, 255}, text(46), text(1500)}
}

// text is n bytes of which those near to each other differ.
func text(n int) []byte {
	b := make([]byte, n)
	for i := range b {
		b[i] = byte(i*i*7 + i*31 + i>>3 + 5)
	}
	return b
}

// alike tells whether headers are alike; nil and no tags are one.
func alike(a, b api.Link) bool {
	return a.Dst == b.Dst && a.Src == b.Src && slices.Equal(a.Tags, b.Tags) && a.Type == b.Type && a.At == b.At
}

// short is b, or what is told of it where it is long.
func short(b []byte) []byte { return b[:min(len(b), 40)] }

// checkRead holds what Read answers against want and e.
func checkRead(t *testing.T, b []byte, want api.Link, e api.Errno) {
	t.Helper()
	if l, err := Read(b); err != e || !alike(l, want) {
		t.Errorf("Read(%x), of %d bytes: %v, %d, not %v, %d", short(b), len(b), l, err, want, e)
	}
}

// checkPut holds what Put answers against want and e.
func checkPut(t *testing.T, l api.Link, want []byte, e api.Errno) {
	t.Helper()
	if b, err := Put(l); err != e || !bytes.Equal(b, want) {
		t.Errorf("Put(%v): %x, %d, not %x, %d", l, b, err, want, e)
	}
}

// checkTurn holds what Turn answers against want.
func checkTurn(t *testing.T, b []byte, dst, src [6]byte, want []byte) {
	t.Helper()
	if got := Turn(b, dst, src); !bytes.Equal(got, want) {
		t.Errorf("Turn(%x, %x, %x): %x, not %x", short(b), dst, src, short(got), short(want))
	}
}

// P7.1: headers that are known; the chapter's example is the first one.
func TestReadKnown(t *testing.T) {
	addresses := []byte{0x02, 0, 0, 0xaa, 0xbb, 0xcc, 0x06, 0x11, 0x22, 0x33, 0x44, 0x55}
	dst, src := [6]byte{0x02, 0, 0, 0xaa, 0xbb, 0xcc}, [6]byte{0x06, 0x11, 0x22, 0x33, 0x44, 0x55}
	vlan, service := api.Tag{Type: api.TagVlan, Tci: 0xa00c}, api.Tag{Type: api.TagService, Tci: 0x0102}
	for _, x := range []struct {
		behind []byte
		want   api.Link
		e      api.Errno
	}{
		{[]byte{0x08, 0x00}, api.Link{Dst: dst, Src: src, Type: api.TypeFour, At: 14}, api.OK},
		{[]byte{0x86, 0xdd}, api.Link{Dst: dst, Src: src, Type: api.TypeSix, At: 14}, api.OK},
		{[]byte{0x00, 0x08}, api.Link{Dst: dst, Src: src, Type: 8, At: 14}, api.OK},
		{[]byte{0x00, 0x81, 0, 0}, api.Link{Dst: dst, Src: src, Type: 0x81, At: 14}, api.OK},
		{[]byte{0x08, 0x00, 0x45, 0x00}, api.Link{Dst: dst, Src: src, Type: api.TypeFour, At: 14}, api.OK},
		{[]byte{0x81, 0x00, 0xa0, 0x0c, 0x86, 0xdd}, api.Link{Dst: dst, Src: src, Tags: []api.Tag{vlan}, Type: api.TypeSix, At: 18}, api.OK},
		{[]byte{0x88, 0xa8, 0x01, 0x02, 0x81, 0x00, 0xa0, 0x0c, 0x08, 0x00}, api.Link{Dst: dst, Src: src, Tags: []api.Tag{service, vlan}, Type: api.TypeFour, At: 22}, api.OK},
		{[]byte{0x81, 0x00, 0xa0, 0x0c, 0x88, 0xa8, 0x01, 0x02, 0x08, 0x00, 9}, api.Link{Dst: dst, Src: src, Tags: []api.Tag{vlan, service}, Type: api.TypeFour, At: 22}, api.OK},
		{[]byte{0x81, 0x00, 0x81, 0x00, 0x81, 0x00, 0x81, 0x00, 0x08, 0x00}, api.Link{Dst: dst, Src: src, Tags: []api.Tag{{Type: 0x8100, Tci: 0x8100}, {Type: 0x8100, Tci: 0x8100}}, Type: api.TypeFour, At: 22}, api.OK},
		{[]byte{0x81, 0x00, 0xa0, 0x0c, 0x81, 0x00, 0xa0, 0x0c, 0x81, 0x00, 0xa0, 0x0c, 0x08, 0x00}, api.Link{}, api.ErrLong},
		{[]byte{0x81, 0x00, 0xa0, 0x0c}, api.Link{}, api.ErrEnd},
		{nil, api.Link{}, api.ErrEnd},
	} {
		checkRead(t, slices.Concat(addresses, x.behind), x.want, x.e)
	}
}

// P7.1: headers of all forms, whatever stands behind.
func TestRead(t *testing.T) {
	for _, l := range headers() {
		for _, tail := range tails() {
			checkRead(t, slices.Concat(bytesOf(l), tail), l, api.OK)
		}
	}
}

// P7.1: bytes that end at each place ahead of the header's end, with room behind them and without; nil and no bytes among them.
func TestReadCut(t *testing.T) {
	checkRead(t, nil, api.Link{}, api.ErrEnd)
	for _, l := range headers() {
		b := bytesOf(l)
		for n := range b {
			checkRead(t, b[:n], api.Link{}, api.ErrEnd)
			checkRead(t, b[:n:n], api.Link{}, api.ErrEnd)
		}
	}
}

// P7.1: a third tag's type in the Type's place, with nothing behind it, with whatever behind it, and cut off within it.
func TestReadThirdTag(t *testing.T) {
	for i := range 8 {
		first, second, third := tagTypes[i&1], tagTypes[i>>1&1], tagTypes[i>>2&1]
		for _, tci := range nums {
			b := laid(to, from, first, tci, second, tci, third)
			for _, tail := range tails() {
				checkRead(t, slices.Concat(b, tail), api.Link{}, api.ErrLong)
			}
			for n := range b {
				checkRead(t, b[:n:n], api.Link{}, api.ErrEnd)
			}
			checkRead(t, laid(to, from, first, tci, second, tci, third, 0, 0x0800), api.Link{}, api.ErrLong)
			checkRead(t, laid(to, from, first, tci, second, tci, third, 0, first, 0, 0x0800), api.Link{}, api.ErrLong)
		}
	}
}

// P7.1: each number in the Type's place, behind no tag, one and two.
func TestReadEachType(t *testing.T) {
	for n := range 1 << 16 {
		for k := range 3 {
			tags := []int{0x8100, n, 0x88a8, 7}[:2*k]
			want, e := header(n, tags...), api.OK
			if isTagType(n) {
				want, e = api.Link{}, api.ErrEnd
				if k == 2 {
					e = api.ErrLong
				}
			}
			checkRead(t, laid(to, from, append(slices.Clone(tags), n)...), want, e)
		}
	}
}

// P7.1: each Tci, those that are tags' types among them.
func TestReadEachTci(t *testing.T) {
	for n := range 1 << 16 {
		checkRead(t, laid(to, from, 0x8100, n, 0x0800), header(0x0800, 0x8100, n), api.OK)
		checkRead(t, laid(to, from, 0x88a8, n, 0x8100, 0xffff-n, 0x86dd), header(0x86dd, 0x88a8, n, 0x8100, 0xffff-n), api.OK)
	}
}

// told is what Read is to answer, by the words: of the places where a Type may stand, the first that has none of a tag.
func told(b []byte) (api.Link, api.Errno) {
	for _, at := range []int{12, 16, 20} {
		if len(b) < at+2 {
			return api.Link{}, api.ErrEnd
		}
		if kind := int(b[at])*256 + int(b[at+1]); !isTagType(kind) {
			l := api.Link{Dst: [6]byte(b), Src: [6]byte(b[6:]), Type: kind, At: at + 2}
			for tag := range slices.Chunk(b[12:at], 4) {
				l.Tags = append(l.Tags, api.Tag{Type: int(tag[0])*256 + int(tag[1]), Tci: int(tag[2])*256 + int(tag[3])})
			}
			return l, api.OK
		}
	}
	return api.Link{}, api.ErrLong
}

// chance is a row of numbers that looks like chance, and is the same each time.
type chance uint64

func (c *chance) below(n int) int {
	*c = *c*6364136223846793005 + 1442695040888963407
	return int(uint64(*c>>33) % uint64(n))
}

// some are up to 30 bytes, of which many, at any place, are a tag's type.
func (c *chance) some() []byte {
	var b []byte
	for n := c.below(31); len(b) < n; {
		switch c.below(4) {
		case 0:
			b = append(b, 0x81, 0)
		case 1:
			b = append(b, 0x88, 0xa8)
		default:
			b = append(b, []byte{0, 0x81, 0x88, 0xa8, 255, byte(c.below(256))}[c.below(6)])
		}
	}
	return b
}

// P7.1, P7.3: bytes of all kinds, held against the words; what is read of them is laid to those that were read.
func TestReadByWords(t *testing.T) {
	c := chance(7)
	for range 200000 {
		b := c.some()
		l, e := told(b)
		checkRead(t, b, l, e)
		if e == api.OK {
			checkPut(t, l, b[:l.At], api.OK)
		}
	}
}

// P7.2: headers whose bytes are known.
func TestPutKnown(t *testing.T) {
	vlan, service := api.Tag{Type: api.TagVlan, Tci: 0xa00c}, api.Tag{Type: api.TagService, Tci: 0x0102}
	checkPut(t, api.Link{}, make([]byte, 14), api.OK)
	checkPut(t, api.Link{Tags: []api.Tag{}}, make([]byte, 14), api.OK)
	checkPut(t, api.Link{Dst: to, Src: from, Type: api.TypeFour}, []byte{1, 2, 3, 4, 5, 6, 7, 8, 9, 10, 11, 12, 8, 0}, api.OK)
	checkPut(t, api.Link{Dst: from, Src: to, Type: api.TypeSix}, []byte{7, 8, 9, 10, 11, 12, 1, 2, 3, 4, 5, 6, 0x86, 0xdd}, api.OK)
	checkPut(t, api.Link{Dst: to, Src: from, Tags: []api.Tag{vlan}, Type: 0x0102}, []byte{1, 2, 3, 4, 5, 6, 7, 8, 9, 10, 11, 12, 0x81, 0, 0xa0, 0x0c, 1, 2}, api.OK)
	checkPut(t, api.Link{Dst: to, Src: from, Tags: []api.Tag{service, vlan}, Type: 0xffff}, []byte{1, 2, 3, 4, 5, 6, 7, 8, 9, 10, 11, 12, 0x88, 0xa8, 1, 2, 0x81, 0, 0xa0, 0x0c, 255, 255}, api.OK)
	checkPut(t, api.Link{Dst: to, Src: from, Tags: []api.Tag{vlan, service}}, []byte{1, 2, 3, 4, 5, 6, 7, 8, 9, 10, 11, 12, 0x81, 0, 0xa0, 0x0c, 0x88, 0xa8, 1, 2, 0, 0}, api.OK)
}

// P7.2: headers of all forms; At, whatever it is, counts for nothing.
func TestPut(t *testing.T) {
	for _, l := range headers() {
		want := bytesOf(l)
		for _, at := range []int{l.At, 0, 1, -1, 14, 18, 22, 23, 1 << 16, math.MaxInt, math.MinInt} {
			l.At = at
			checkPut(t, l, want, api.OK)
		}
	}
}

// P7.2: each Type, and each Tci, which may be a tag's type.
func TestPutEachNumber(t *testing.T) {
	for n := range 1 << 16 {
		l := header(n)
		if isTagType(n) {
			checkPut(t, l, nil, api.ErrArg)
		} else {
			checkPut(t, l, bytesOf(l), api.OK)
		}
		l = header(0x0800, 0x8100, n)
		checkPut(t, l, bytesOf(l), api.OK)
		l = header(0x0800, 0x88a8, 0xffff-n, 0x88a8, n)
		checkPut(t, l, bytesOf(l), api.OK)
	}
}

// P7.2: of all numbers of two bytes a tag's type is one of two alone.
func TestPutEachTagType(t *testing.T) {
	for n := range 1 << 16 {
		for _, l := range []api.Link{header(0x0800, n, 5), header(0x0800, n, 5, 0x8100, 6), header(0x0800, 0x88a8, 5, n, 6)} {
			if isTagType(n) {
				checkPut(t, l, bytesOf(l), api.OK)
			} else {
				checkPut(t, l, nil, api.ErrArg)
			}
		}
	}
}

// beyond are numbers that two bytes don't tell; the last bits of many of them are those of numbers that may be.
func beyond() []int {
	return []int{-1, -2, -65535, -65536, -65536 + 0x0800, -65536 + 0x8100, 65536, 65537, 65536 + 0x0800, 65536 + 0x8100, 65536 + 0x88a8, 1 << 17, 1<<32 + 0x0800, 1<<32 + 0x8100, math.MaxInt32, math.MinInt32, math.MaxInt, math.MinInt}
}

// P7.2: a Type, a Tci or a tag's type below 0 or above 65535, in each place.
func TestPutBeyond(t *testing.T) {
	for _, n := range beyond() {
		for _, l := range []api.Link{
			header(n), header(n, 0x8100, 5), header(n, 0x8100, 5, 0x88a8, 6),
			header(0x0800, 0x8100, n), header(0x0800, 0x8100, n, 0x8100, 6), header(0x0800, 0x88a8, 5, 0x8100, n), header(0x0800, 0x88a8, n, 0x8100, n),
			header(0x0800, n, 5), header(0x0800, n, 5, 0x8100, 6), header(0x0800, 0x8100, 5, n, 6), header(n, n, n),
		} {
			checkPut(t, l, nil, api.ErrArg)
		}
	}
}

// P7.2: more than two tags, though each of them may be; and a Type that is a tag's behind tags.
func TestPutTagged(t *testing.T) {
	for _, n := range []int{3, 4, 5, 100, 1 << 16} {
		for _, kind := range tagTypes {
			l := api.Link{Dst: to, Src: from, Tags: slices.Repeat([]api.Tag{{Type: kind, Tci: 5}}, n), Type: 0x0800}
			checkPut(t, l, nil, api.ErrArg)
		}
	}
	checkPut(t, header(0x0800, 0x88a8, 1, 0x8100, 2, 0x8100, 3), nil, api.ErrArg)
	for _, kind := range tagTypes {
		checkPut(t, header(kind), nil, api.ErrArg)
		checkPut(t, header(kind, 0x8100, 5), nil, api.ErrArg)
		checkPut(t, header(kind, 0x88a8, 5, 0x8100, 6), nil, api.ErrArg)
	}
}

// P7.2: bytes of no length, shorter than one address, of just one, shorter than both, of just both, and longer.
func TestTurn(t *testing.T) {
	dst, src := [6]byte{0xa1, 0xa2, 0xa3, 0xa4, 0xa5, 0xa6}, [6]byte{0xb1, 0xb2, 0xb3, 0xb4, 0xb5, 0xb6}
	all := []byte{0xa1, 0xa2, 0xa3, 0xa4, 0xa5, 0xa6, 0xb1, 0xb2, 0xb3, 0xb4, 0xb5, 0xb6}
	checkTurn(t, nil, dst, src, nil)
	checkTurn(t, []byte{}, dst, src, nil)
	for n := range 100 {
		b := text(n)
		want := slices.Concat(all, b[min(n, 12):])[:n]
		checkTurn(t, b, dst, src, want)
		checkTurn(t, make([]byte, n), dst, src, slices.Concat(all, make([]byte, 100))[:n])
		checkTurn(t, b, [6]byte{}, [6]byte{}, slices.Concat(make([]byte, 12), b[min(n, 12):])[:n])
	}
	b := text(api.MaxFrame + 1)
	checkTurn(t, b, dst, src, slices.Concat(all, b[12:]))
}

// P7.2: what is turned is read with the other addresses, and else as it was.
func TestTurnedIsRead(t *testing.T) {
	dst, src := [6]byte{0x81, 0, 0, 0, 0, 1}, [6]byte{0x88, 0xa8, 0, 0, 0, 2}
	for _, l := range headers() {
		b := Turn(slices.Concat(bytesOf(l), []byte{1, 2, 3}), dst, src)
		l.Dst, l.Src = dst, src
		checkRead(t, b, l, api.OK)
		checkPut(t, l, b[:l.At], api.OK)
	}
}

// P7.3: what is laid is read as it was, whatever stands behind.
func TestPutIsRead(t *testing.T) {
	for _, l := range headers() {
		l.At = -5
		b, e := Put(l)
		if e != api.OK {
			t.Errorf("Put(%v): %d", l, e)
		}
		l.At = len(b)
		for _, tail := range tails() {
			checkRead(t, slices.Concat(b, tail), l, api.OK)
		}
	}
}

// spoil overwrites bytes, with all the room behind their length.
func spoil(b []byte) {
	b = b[:cap(b)]
	for i := range b {
		b[i] = ^b[i]
	}
}

// spoilTags overwrites tags, with all the room behind their length.
func spoilTags(l []api.Tag) {
	l = l[:cap(l)]
	for i := range l {
		l[i] = api.Tag{Type: ^l[i].Type, Tci: ^l[i].Tci}
	}
}

// P7.4: what is read stays, with the room behind it, which doesn't count and isn't kept.
func TestReadStays(t *testing.T) {
	for _, l := range []api.Link{header(0x0800), header(0x0800, 0x8100, 5), header(0x0800, 0x88a8, 5, 0x8100, 6)} {
		for n := range l.At + 4 {
			whole := slices.Concat(bytesOf(l), text(40))
			was := slices.Clone(whole)
			want, e := told(slices.Clone(whole[:n]))
			got, err := Read(whole[:n])
			if !bytes.Equal(whole, was) {
				t.Errorf("the first %d bytes: what was handed in is %x", n, whole)
			}
			spoil(whole)
			if err != e || !alike(got, want) {
				t.Errorf("the first %d bytes: %v, %d, not %v, %d", n, got, err, want, e)
			}
		}
	}
}

// P7.4: the tags that are read are new memory, with the room behind them.
func TestReadIsNew(t *testing.T) {
	for _, l := range []api.Link{header(0x0800), header(0x0800, 0x8100, 5), header(0x0800, 0x88a8, 5, 0x8100, 6)} {
		b := bytesOf(l)
		first, _ := Read(b)
		second, _ := Read(b)
		spoilTags(first.Tags)
		checkRead(t, b, l, api.OK)
		if !bytes.Equal(b, bytesOf(l)) || !alike(second, l) {
			t.Errorf("%v: what was handed in is %x, what was answered too is %v", l, b, second)
		}
	}
}

// P7.4: the tags that are laid stay, with the room behind them, which doesn't count and isn't kept.
func TestPutStays(t *testing.T) {
	all := []api.Tag{{Type: 0x88a8, Tci: 5}, {Type: 0x8100, Tci: 6}, {Type: 0x8100, Tci: 7}, {Type: -1, Tci: -1}}
	for n := range len(all) + 1 {
		whole := slices.Clone(all)
		l := api.Link{Dst: to, Src: from, Tags: whole[:n], Type: 0x0800}
		b, e := Put(l)
		if !slices.Equal(whole, all) {
			t.Errorf("%d tags: what was handed in is %v", n, whole)
		}
		spoilTags(whole)
		if n > 2 {
			if e != api.ErrArg || len(b) > 0 {
				t.Errorf("%d tags: %x, %d", n, b, e)
			}
			continue
		}
		l.Tags = all[:n]
		if e != api.OK || !bytes.Equal(b, bytesOf(l)) {
			t.Errorf("%d tags: %x, %d", n, b, e)
		}
	}
}

// P7.4: the bytes of a header are new memory, with the room behind them.
func TestPutIsNew(t *testing.T) {
	for _, l := range []api.Link{header(0x0800), header(0x0800, 0x8100, 5), header(0x0800, 0x88a8, 5, 0x8100, 6)} {
		want := bytesOf(l)
		first, _ := Put(l)
		second, _ := Put(l)
		spoil(first)
		checkPut(t, l, want, api.OK)
		if !bytes.Equal(second, want) || !bytes.Equal(bytesOf(l), want) {
			t.Errorf("%v: %x", l, second)
		}
	}
}

// P7.4: what is turned stays, with the room behind it, which isn't kept; what is answered is new memory, with the room behind it.
func TestTurnIsNew(t *testing.T) {
	for n := range 40 {
		whole := text(n + 40)
		was := slices.Clone(whole)
		first := Turn(whole[:n], to, from)
		second := Turn(whole[:n], to, from)
		want := slices.Concat(to[:], from[:], was[12:])[:n]
		if !bytes.Equal(whole, was) || !bytes.Equal(first, want) {
			t.Errorf("%d bytes: what was handed in is %x, what was answered %x", n, whole, first)
		}
		spoil(first)
		if !bytes.Equal(whole, was) || !bytes.Equal(second, want) {
			t.Errorf("%d bytes, spoilt: what was handed in is %x, what was answered too %x", n, whole, second)
		}
		spoil(whole)
		if !bytes.Equal(second, want) {
			t.Errorf("%d bytes: what was handed in is kept: %x", n, second)
		}
		if to != [6]byte{1, 2, 3, 4, 5, 6} || from != [6]byte{7, 8, 9, 10, 11, 12} {
			t.Fatal("addresses that were handed in are changed")
		}
	}
}
