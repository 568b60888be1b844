package cursor

import (
	"bytes"
	"encoding/binary"
	"math"
	"math/big"
	"slices"
	"testing"

	"wayleave/api"
)

// ask is one of a reader's calls, and what it answered: a number, or bytes.
type ask struct {
	name string
	do   func(r *Reader) (uint64, []byte)
}

func num(size int, big bool) ask {
	return ask{"Num", func(r *Reader) (uint64, []byte) { return r.Num(size, big), nil }}
}

func variable() ask {
	return ask{"Var", func(r *Reader) (uint64, []byte) { return r.Var(), nil }}
}

func take(n int) ask {
	return ask{"Take", func(r *Reader) (uint64, []byte) { return 0, r.Take(n) }}
}

func text(most int) ask {
	return ask{"Text", func(r *Reader) (uint64, []byte) { return 0, r.Text(most) }}
}

func end() ask {
	return ask{"End", func(r *Reader) (uint64, []byte) { r.End(); return 0, nil }}
}

// asks are calls of all kinds, with arguments that may be and that may not.
func asks() []ask {
	l := []ask{variable(), end()}
	for _, n := range []int{math.MinInt, -9, -1, 0, 1, 2, 3, 4, 7, 8, 9, 16, math.MaxInt} {
		l = append(l, num(n, true), num(n, false), take(n), text(n))
	}
	return l
}

// rising is n bytes, none like its neighbours.
func rising(n int) []byte {
	b := make([]byte, n)
	for i := range b {
		b[i] = byte(7*i + 1)
	}
	return b
}

// full is so many bytes behind each of which more of a varint follows, and behind them the tail.
func full(n int, x byte, tail ...byte) []byte {
	return append(bytes.Repeat([]byte{x}, n), tail...)
}

// want is what a call is to answer, and how the reader is to be behind it.
type want struct {
	n     uint64
	b     []byte
	at    int
	fault api.Errno
}

// checkAsk reads ahead bytes, makes the call, and holds what came against x.
func checkAsk(t *testing.T, b []byte, ahead int, a ask, x want) {
	t.Helper()
	r := New(b)
	r.Take(ahead)
	n, got := a.do(r)
	spot := api.Spot{}
	if x.fault != api.OK {
		spot = api.Spot{At: x.at, Err: x.fault}
	}
	if n != x.n || !bytes.Equal(got, x.b) || r.At() != x.at || r.Left() != len(b)-x.at || r.Fault() != spot {
		t.Errorf("%v from %d, %s: %d, %v, at %d, left %d, fault %v; asked for %v", b, ahead, a.name, n, got, r.At(), r.Left(), r.Fault(), x)
	}
}

// P4.1: a new reader is at 0 and has no fault.
func TestNew(t *testing.T) {
	for _, b := range [][]byte{nil, {}, {0}, {128}, rising(300)} {
		if r := New(b); r.At() != 0 || r.Left() != len(b) || r.Fault() != (api.Spot{}) {
			t.Errorf("of %d bytes: at %d, left %d, fault %v", len(b), r.At(), r.Left(), r.Fault())
		}
	}
}

// The chapter's example: a big number of 2 bytes, and a text of 3 at most.
func TestReaderExample(t *testing.T) {
	r := New([]byte{1, 2, 2, 97, 98})
	if n := r.Num(2, true); n != 258 {
		t.Error(n)
	}
	if b := r.Text(3); string(b) != "ab" {
		t.Error(b)
	}
	if r.End(); r.Fault() != (api.Spot{}) || r.At() != 5 || r.Left() != 0 {
		t.Error(r.Fault(), r.At(), r.Left())
	}
}

// P4.1: numbers of each size, in both orders, from each place.
func TestNum(t *testing.T) {
	b := []byte{1, 2, 3, 4, 5, 6, 7, 8, 0xff, 0, 0x80, 0xff, 0xff, 0xff, 0xff, 0xff, 0xff, 0xff, 0xff}
	for at := range len(b) + 1 {
		for size := 1; size <= 8; size++ {
			high, low := uint64(0), uint64(0)
			if at+size > len(b) {
				checkAsk(t, b, at, num(size, true), want{at: at, fault: api.ErrEnd})
				checkAsk(t, b, at, num(size, false), want{at: at, fault: api.ErrEnd})
				continue
			}
			for i := range size {
				high = high*256 + uint64(b[at+i])
				low += uint64(b[at+i]) << (8 * i)
			}
			checkAsk(t, b, at, num(size, true), want{n: high, at: at + size})
			checkAsk(t, b, at, num(size, false), want{n: low, at: at + size})
		}
	}
}

// P4.1: a size that isn't 1 to 8, told ahead of too few bytes.
func TestNumOfOtherSizes(t *testing.T) {
	for _, size := range []int{math.MinInt, -8, -1, 0, 9, 16, 17, 1 << 40, math.MaxInt} {
		for _, big := range []bool{true, false} {
			for _, n := range []int{0, 1, 8, 9, 40} {
				for _, at := range []int{0, n / 2, n} {
					checkAsk(t, rising(n), at, num(size, big), want{at: at, fault: api.ErrArg})
				}
			}
		}
	}
}

// P4.1: varints; a varint that is cut off; bytes with which none begins.
func TestVar(t *testing.T) {
	ahead := []byte{200, 201}
	for _, x := range []struct {
		b    []byte
		want want
	}{
		{[]byte{0}, want{n: 0, at: 1}},
		{[]byte{0, 0}, want{n: 0, at: 1}},
		{[]byte{1}, want{n: 1, at: 1}},
		{[]byte{127, 255}, want{n: 127, at: 1}},
		{[]byte{128, 1}, want{n: 128, at: 2}},
		{[]byte{172, 2, 5}, want{n: 300, at: 2}},
		{full(8, 255, 127), want{n: math.MaxInt64, at: 9}},
		{full(9, 128, 1, 1), want{n: 1 << 63, at: 10}},
		{full(9, 255, 1), want{n: math.MaxUint64, at: 10}},
		{nil, want{fault: api.ErrEnd}},
		{[]byte{128}, want{fault: api.ErrEnd}},
		{full(3, 200), want{fault: api.ErrEnd}},
		{full(9, 255), want{fault: api.ErrEnd}},
		{[]byte{128, 0}, want{fault: api.ErrForm}},
		{[]byte{172, 0, 1}, want{fault: api.ErrForm}},
		{full(9, 255, 0), want{fault: api.ErrForm}},
		{full(9, 255, 2), want{fault: api.ErrForm}},
		{full(10, 128), want{fault: api.ErrForm}},
		{full(20, 255), want{fault: api.ErrForm}},
	} {
		checkAsk(t, x.b, 0, variable(), x.want)
		x.want.at += len(ahead)
		checkAsk(t, append(slices.Clone(ahead), x.b...), len(ahead), variable(), x.want)
	}
}

// P4.1: so many bytes, none and all among them.
func TestTake(t *testing.T) {
	for length := range 12 {
		b := rising(length)
		for at := range length + 1 {
			for n := range length - at + 1 {
				checkAsk(t, b, at, take(n), want{b: b[at : at+n], at: at + n})
			}
			for _, n := range []int{length - at + 1, length + 1, length + 100, 1 << 40, math.MaxInt} {
				checkAsk(t, b, at, take(n), want{at: at, fault: api.ErrEnd})
			}
			for _, n := range []int{-1, -2, -at - 1, -length - 1, math.MinInt} {
				checkAsk(t, b, at, take(n), want{at: at, fault: api.ErrArg})
			}
		}
	}
}

// P4.1: a text that is there whole, and its length no more than may be.
func TestText(t *testing.T) {
	for _, n := range []int{0, 1, 2, 5, 127, 128, 300, 16384} {
		body := rising(n)
		head := binary.AppendUvarint(nil, uint64(n))
		for _, ahead := range []int{0, 1, 3} {
			for _, tail := range [][]byte{nil, {0}, {9, 8, 7}} {
				b := slices.Concat(rising(ahead), head, body, tail)
				for _, most := range []int{n, n + 1, 2*n + 3, 1 << 40, math.MaxInt} {
					checkAsk(t, b, ahead, text(most), want{b: body, at: ahead + len(head) + n})
				}
				for _, most := range []int{n - 1, n - 2, -1, -n - 1, math.MinInt} {
					checkAsk(t, b, ahead, text(most), want{at: ahead, fault: api.ErrLong})
				}
			}
			for _, lack := range []int{1, 2, n - 1, n} {
				if lack < 1 || lack > n {
					continue
				}
				b := slices.Concat(rising(ahead), head, body[:n-lack])
				checkAsk(t, b, ahead, text(n), want{at: ahead, fault: api.ErrEnd})
				checkAsk(t, b, ahead, text(math.MaxInt), want{at: ahead, fault: api.ErrEnd})
				checkAsk(t, b, ahead, text(n-1), want{at: ahead, fault: api.ErrLong})
			}
		}
	}
}

// P4.1: of a text, the varint's error is told first, then that it is longer than may be.
func TestTextFaults(t *testing.T) {
	for _, x := range []struct {
		b    []byte
		most int
		want api.Errno
	}{
		{nil, 5, api.ErrEnd},
		{nil, -1, api.ErrEnd},
		{[]byte{128}, 5, api.ErrEnd},
		{[]byte{128}, -1, api.ErrEnd},
		{full(9, 255), math.MaxInt, api.ErrEnd},
		{[]byte{130, 0, 7, 7}, 5, api.ErrForm},
		{[]byte{128, 0}, -1, api.ErrForm},
		{full(9, 255, 2), math.MaxInt, api.ErrForm},
		{[]byte{0}, -1, api.ErrLong},
		{[]byte{0}, math.MinInt, api.ErrLong},
		{[]byte{1}, 0, api.ErrLong},
		{[]byte{3, 1}, 2, api.ErrLong},
		{[]byte{1}, 1, api.ErrEnd},
		{[]byte{3, 1, 2}, 3, api.ErrEnd},
		// Lengths at and beyond the greatest int.
		{full(8, 255, 127, 1), math.MaxInt, api.ErrEnd},
		{full(8, 255, 127, 1), math.MaxInt - 1, api.ErrLong},
		{full(9, 128, 1, 1), math.MaxInt, api.ErrLong},
		{full(9, 255, 1, 1), math.MaxInt, api.ErrLong},
		{full(9, 255, 1, 1), 1, api.ErrLong},
		{full(9, 255, 1), -1, api.ErrLong},
	} {
		checkAsk(t, x.b, 0, text(x.most), want{fault: x.want})
		checkAsk(t, append([]byte{5}, x.b...), 1, text(x.most), want{at: 1, fault: x.want})
	}
	checkAsk(t, []byte{0}, 0, text(0), want{at: 1})
	checkAsk(t, []byte{0, 5}, 0, text(0), want{at: 1})
}

// P4.1: no bytes may be left at the end.
func TestEnd(t *testing.T) {
	for n := range 5 {
		for at := range n {
			checkAsk(t, rising(n), at, end(), want{at: at, fault: api.ErrForm})
		}
		checkAsk(t, rising(n), n, end(), want{at: n})
	}
}

// P4.1: behind an end at which nothing was left, what needs no bytes can still be read.
func TestEndReadsNothing(t *testing.T) {
	r := New([]byte{1})
	r.Take(1)
	r.End()
	r.End()
	if b := r.Take(0); len(b) != 0 || r.Fault() != (api.Spot{}) || r.At() != 1 {
		t.Error(b, r.Fault(), r.At())
	}
	if n := r.Num(1, true); n != 0 || r.Fault() != (api.Spot{At: 1, Err: api.ErrEnd}) {
		t.Error(n, r.Fault())
	}
}

// faulty are readers that have each fault, at places of which some have more behind them that could be read.
func faulty() []*Reader {
	var l []*Reader
	for _, ahead := range []int{0, 2} {
		for _, a := range []ask{num(0, true), num(9, false), num(-1, true), num(8, true), take(-1), take(100), text(0), text(2), text(-1), text(100), end()} {
			r := New(append(rising(ahead), 3, 4, 5))
			r.Take(ahead)
			a.do(r)
			l = append(l, r)
		}
		for _, b := range [][]byte{{128, 0, 1, 1}, full(12, 255), {200}} {
			r := New(append(rising(ahead), b...))
			r.Take(ahead)
			r.Var()
			l = append(l, r)
		}
	}
	for _, b := range [][]byte{nil, {7}} {
		r := New(b)
		r.Take(len(b))
		r.Var()
		l = append(l, r)
	}
	return l
}

// P4.1: with a fault nothing is read more, and the fault and the place stay, whatever is asked.
func TestFaultStays(t *testing.T) {
	for i := range faulty() {
		for _, a := range asks() {
			r := faulty()[i]
			fault, at, left := r.Fault(), r.At(), r.Left()
			if fault.Err == api.OK || fault.At != at {
				t.Fatalf("reader %d: fault %v, at %d", i, fault, at)
			}
			for range 2 {
				n, b := a.do(r)
				if n != 0 || len(b) != 0 || r.Fault() != fault || r.At() != at || r.Left() != left {
					t.Errorf("reader %d, %s: %d, %v, fault %v, at %d, left %d", i, a.name, n, b, r.Fault(), r.At(), r.Left())
				}
			}
		}
	}
}

// byWords is a reader as the chapter's words have it, with numbers of any length.
type byWords struct {
	b     []byte
	at    int
	fault api.Spot
}

func (m *byWords) fails(e api.Errno) {
	if m.fault.Err == api.OK {
		m.fault = api.Spot{At: m.at, Err: e}
	}
}

func (m *byWords) take(n int) []byte {
	switch {
	case m.fault.Err != api.OK:
	case n < 0:
		m.fails(api.ErrArg)
	case len(m.b)-m.at < n:
		m.fails(api.ErrEnd)
	default:
		m.at += n
		return m.b[m.at-n : m.at]
	}
	return nil
}

func (m *byWords) num(size int, high bool) uint64 {
	if size < 1 || size > 8 {
		m.fails(api.ErrArg)
	}
	if m.fault.Err != api.OK {
		return 0
	}
	b := slices.Clone(m.take(size))
	if !high {
		slices.Reverse(b)
	}
	return new(big.Int).SetBytes(b).Uint64()
}

func (m *byWords) variable() uint64 {
	if m.fault.Err != api.OK {
		return 0
	}
	n, k, e := varintOf(m.b[m.at:])
	m.at += k
	if e != api.OK {
		m.fails(e)
	}
	return n
}

func (m *byWords) text(most int) []byte {
	from := m.at
	n := m.variable()
	if m.fault.Err != api.OK {
		return nil
	}
	length, behind := new(big.Int).SetUint64(n), m.at
	m.at = from
	switch {
	case length.Cmp(big.NewInt(int64(most))) > 0:
		m.fails(api.ErrLong)
	case length.Cmp(big.NewInt(int64(len(m.b)-behind))) > 0:
		m.fails(api.ErrEnd)
	default:
		m.at = behind
		return m.take(int(n))
	}
	return nil
}

func (m *byWords) end() {
	if m.at < len(m.b) {
		m.fails(api.ErrForm)
	}
}

// varintOf is the varint at the beginning of b, by another library's laying of each number that it could be.
func varintOf(b []byte) (uint64, int, api.Errno) {
	for k := 1; k <= min(len(b), 10); k++ {
		n, got := binary.Uvarint(b[:k])
		if got == k && bytes.Equal(binary.AppendUvarint(nil, n), b[:k]) {
			return n, k, api.OK
		}
		if b[k-1] < 128 {
			return 0, 0, api.ErrForm
		}
	}
	if len(b) >= 10 {
		return 0, 0, api.ErrForm
	}
	return 0, 0, api.ErrEnd
}

// chance is a row of numbers that looks like chance, and is the same each time.
type chance uint64

func (c *chance) below(n int) int {
	*c = *c*6364136223846793005 + 1442695040888963407
	return int(uint64(*c>>33) % uint64(n))
}

// some are bytes of which many are lengths of small texts, and ends of varints.
func (c *chance) some(n int) []byte {
	b := make([]byte, n)
	for i := range b {
		b[i] = []byte{0, 1, 2, 3, 1, 2, 127, 128, 129, 255, byte(c.below(256))}[c.below(11)]
	}
	return b
}

// P4.1: rows of calls, held against the words.
func TestReaderByWords(t *testing.T) {
	c := chance(1)
	for range 20000 {
		b := c.some(c.below(24))
		r, m := New(b), &byWords{b: b}
		for range 12 {
			k, size := c.below(5), c.below(11)-1
			got, wanted := []byte{}, []byte{}
			n, w := uint64(0), uint64(0)
			high := c.below(2) == 0
			switch k {
			case 0:
				n, w = r.Num(size, high), m.num(size, high)
			case 1:
				n, w = r.Var(), m.variable()
			case 2:
				got, wanted = r.Take(size), m.take(size)
			case 3:
				got, wanted = r.Text(size), m.text(size)
			case 4:
				if c.below(8) == 0 {
					r.End()
					m.end()
				}
			}
			if n != w || !bytes.Equal(got, wanted) || r.At() != m.at || r.Left() != len(b)-m.at || r.Fault() != m.fault {
				t.Fatalf("%v, call %d of %d: %d %v at %d, %v; by the words %d %v at %d, %v", b, k, size, n, got, r.At(), r.Fault(), w, wanted, m.at, m.fault)
			}
		}
	}
}

// P4.5: what is handed in stays and isn't kept: the reader reads a copy.
func TestReaderKeepsNothing(t *testing.T) {
	whole := append([]byte{1, 2, 3, 172, 2, 2, 'a', 'b', 9}, bytes.Repeat([]byte{77}, 20)...)
	was := slices.Clone(whole)
	r := New(whole[:9])
	if r.Num(3, true); !bytes.Equal(whole, was) {
		t.Errorf("handed in: %v", whole)
	}
	spoil(whole)
	if n := r.Var(); n != 300 {
		t.Errorf("Var: %d", n)
	}
	if b := r.Text(2); string(b) != "ab" {
		t.Errorf("Text: %v", b)
	}
	if b := r.Take(1); !bytes.Equal(b, []byte{9}) {
		t.Errorf("Take: %v", b)
	}
	if r.End(); r.Fault() != (api.Spot{}) {
		t.Error(r.Fault())
	}
}

// P4.5: bytes that are answered are new memory, the room behind their length included.
func TestReaderAnswersAreNew(t *testing.T) {
	b := []byte{0, 1, 2, 2, 'a', 'b', 0, 3, 'c', 'd', 'e', 4, 5, 6}
	was := slices.Clone(b)
	r := New(b)
	answers := [][]byte{r.Take(0), r.Take(3), r.Text(9), r.Text(9), r.Text(9), r.Take(1), r.Take(2)}
	wanted := [][]byte{nil, {0, 1, 2}, []byte("ab"), nil, []byte("cde"), {4}, {5, 6}}
	for i := range answers {
		if !bytes.Equal(answers[i], wanted[i]) {
			t.Errorf("answer %d: %v", i, answers[i])
		}
		spoil(answers[i])
		for k := i + 1; k < len(answers); k++ {
			if !bytes.Equal(answers[k], wanted[k]) {
				t.Errorf("answer %d behind %d was spoilt: %v", k, i, answers[k])
			}
		}
	}
	if !bytes.Equal(b, was) {
		t.Errorf("handed in: %v", b)
	}
}

// P4.5: to spoil an answer, and what is behind it, spoils nothing that is read then.
func TestReaderAnswersSpoilNothing(t *testing.T) {
	for _, a := range []ask{take(0), take(1), take(3), text(9)} {
		b := append([]byte{2, 'a', 'b'}, rising(30)...)
		r := New(b)
		_, got := a.do(r)
		spoil(got)
		if rest := r.Take(r.Left()); !bytes.Equal(rest, b[len(b)-len(rest):]) {
			t.Errorf("%s: behind it %v", a.name, rest)
		}
	}
}

// P4.1: two readers of the same bytes go their own ways.
func TestReadersAreApart(t *testing.T) {
	b := rising(9)
	one, other := New(b), New(b)
	one.Take(4)
	one.Take(-1)
	if n := other.Num(1, true); n != 1 || other.At() != 1 || other.Fault() != (api.Spot{}) || one.At() != 4 || one.Fault() != (api.Spot{At: 4, Err: api.ErrArg}) {
		t.Error(n, other.At(), other.Fault(), one.At(), one.Fault())
	}
}

// spoil overwrites bytes, with all the room behind their length.
func spoil(b []byte) {
	b = b[:cap(b)]
	for i := range b {
		b[i] = ^b[i]
	}
}
