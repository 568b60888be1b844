package maglev_test

import (
	"maps"
	"slices"
	"strconv"
	"strings"
	"testing"

	"wayleave/api"
	"wayleave/maglev"
	"wayleave/sip"
)

// full is the greatest quanta that a share may have.
const full = 1024000

// Keys: of bytes 0, of bytes 255, and such whose bytes are unlike.
func noKey() [16]byte   { return [16]byte{} }
func fullKey() [16]byte { return [16]byte(slices.Repeat([]byte{255}, 16)) }
func upKey() [16]byte   { return [16]byte{0, 1, 2, 3, 4, 5, 6, 7, 8, 9, 10, 11, 12, 13, 14, 15} }

func keys() [][16]byte { return [][16]byte{noKey(), fullKey(), upKey()} }

// sizes are the least ones, ordinary ones, and a greater one.
func sizes() []int { return []int{2, 3, 5, 7, 13, 31, 101, 251, 1021} }

// share is one of that name and quanta.
func share(name string, quanta int) api.Share { return api.Share{Name: name, Quanta: quanta} }

// row is so many shares of plain names, which don't rise by their bytes, with the quanta that the function tells.
func row(n int, quanta func(i int) int) []api.Share {
	l := make([]api.Share, n)
	for i := range l {
		l[i] = share("b"+strconv.Itoa(i), quanta(i))
	}
	return l
}

// always is a function that tells one number of quanta.
func always(quanta int) func(int) int { return func(int) int { return quanta } }

// lists are shares that may be: of few and many names, plain ones and others, and with quanta of all kinds.
func lists() [][]api.Share {
	return [][]api.Share{
		{share("a", 1)},
		{share("a", full)},
		{share("", 7)},
		{share("b", 1), share("a", 1)},
		{share("a", 1024), share("b", 2048)},
		{share("a", full), share("b", 1)},
		{share("b", full), share("a", 1)},
		{share("a", full), share("b", full-1)},
		{share("c", 1), share("a", 1), share("b", 1)},
		{share("c", 3), share("a", 2), share("b", 0), share("d", 1)},
		{share("z", 12), share("a", 1), share("m", 2), share("k", 3), share("q", 4), share("e", 6)},
		{share("z", 7), share("a", 5), share("m", 3), share("k", 2), share("q", 11), share("e", 13)},
		{share("z", 1000), share("a", 999), share("m", 1001), share("k", 500), share("q", 501), share("e", 499)},
		{share("x", full), share("w", full/2), share("v", full/2+1), share("u", full/2-1), share("t", full/3)},
		{share("x", 1024), share("w", 1), share("v", 0), share("u", 1024), share("t", 1)},
		// Names without bytes, that are no text, that begin others, and that differ in their last byte.
		{share("", 1), share("\x00", 2), share("\x00\x00", 3), share("\x01", 4)},
		{share("\xff\xfe\x80", 9), share("\xc3\xa9", 8), share("\xff", 7), share("\x80", 6), share("z", 5), share("\xef\xbf\xbd", 4)},
		{share("abc", 3), share("ab", 3), share("a", 3), share("abcd", 3), share("", 3), share("b", 3), share("B", 3)},
		{share("web-1", 2), share("web-2", 3), share("web-3", 4), share("web-", 5), share("web-\x00", 6), share("web-\xff", 7)},
		{share(strings.Repeat("w", 5000), 3), share(strings.Repeat("w", 5000)+"a", 2), share(strings.Repeat("w", 4999), 1)},
		row(40, always(1024)),
		row(40, func(i int) int { return i }),
		row(40, func(i int) int { return i * i * 631 % (full + 1) }),
		row(300, always(1)),
		row(300, func(i int) int { return i % 3 * (i + 1) }),
		row(200, func(i int) int { return i / 199 * full }),
		row(200, func(i int) int { return 1 + i/199*(full-1) }),
	}
}

// chance are numbers that look like such by chance, but are the same each time.
type chance uint64

func (c *chance) next() uint64 {
	*c = *c*6364136223846793005 + 1442695040888963407
	n := uint64(*c)
	return (n ^ n>>33) * 0xff51afd7ed558ccd
}

// below is a number from 0 to n - 1.
func (c *chance) below(n int) int { return int(c.next() % uint64(n)) }

func (c *chance) key() [16]byte {
	k := [16]byte{}
	for i := range k {
		k[i] = byte(c.next() >> 20)
	}
	return k
}

// mixed is the list in another order.
func (c *chance) mixed(l []api.Share) []api.Share {
	l = slices.Clone(l)
	for i := range l {
		j := c.below(i + 1)
		l[i], l[j] = l[j], l[i]
	}
	return l
}

// shares is a list of at most n, each name once.
func (c *chance) shares(n int) []api.Share {
	var l []api.Share
	by := 1 + c.below(full)>>c.below(20)
	seen := map[string]int{}
	for range c.below(n + 1) {
		b := make([]byte, c.below(4))
		for i := range b {
			b[i] = byte(c.next() >> 20)
		}
		if seen[string(b)]++; seen[string(b)] == 1 {
			l = append(l, share(string(b), c.below(by+1)))
		}
	}
	return l
}

// toldTable is what the chapter's words tell: the table, and how often all names were gone through wholly.
type toldTable struct {
	names  []string
	slots  []int
	rounds int
}

// toldQuanta is the quanta of the names that have some.
func toldQuanta(l []api.Share) map[string]int {
	m := map[string]int{}
	for _, s := range l {
		if s.Quanta > 0 {
			m[s.Name] = s.Quanta
		}
	}
	return m
}

// toldChoices tells of each name its i-th choice, by the hashes that layer 15 tells.
func toldChoices(key [16]byte, size int, names []string) func(at, i int) int {
	offsets, skips := make([]uint64, len(names)), make([]uint64, len(names))
	for at, n := range names {
		offsets[at] = sip.Of(key, []byte(n+"\x00")) % uint64(size)
		skips[at] = sip.Of(key, []byte(n+"\x01"))%uint64(size-1) + 1
	}
	return func(at, i int) int { return int((offsets[at] + uint64(i)*skips[at]) % uint64(size)) }
}

// told is the table by the chapter's words, step by step; each name goes through its choices from the first one on, each time. At the greatest sizes it goes on behind those that it found taken, as that would take minutes there.
func told(key [16]byte, size int, l []api.Share) toldTable {
	quanta := toldQuanta(l)
	if len(quanta) == 0 {
		return toldTable{}
	}
	w := toldTable{names: slices.Sorted(maps.Keys(quanta)), slots: slices.Repeat([]int{-1}, size)}
	most := slices.Max(slices.Collect(maps.Values(quanta)))
	choice, credits, grows, from := toldChoices(key, size, w.names), make([]int, len(w.names)), make([]int, len(w.names)), make([]int, len(w.names))
	for at, n := range w.names {
		grows[at] = quanta[n]
	}
	for free := size; ; w.rounds++ {
		for at := range w.names {
			credits[at] = credits[at] + grows[at]
			if credits[at] < most {
				continue
			}
			credits[at] = credits[at] - most
			i := from[at]
			for w.slots[choice(at, i)] != -1 {
				i++
			}
			if size > 5000 {
				from[at] = i
			}
			w.slots[choice(at, i)] = at
			free--
			if free == 0 && at == len(w.names)-1 {
				w.rounds++
			}
			if free == 0 {
				return w
			}
		}
	}
}

// build is the table of shares that may be.
func build(t *testing.T, key [16]byte, size int, l []api.Share) api.Table {
	t.Helper()
	tab, e := maglev.Build(key, size, l)
	if e != api.OK {
		t.Fatalf("% x, %d, %s: error %d", key, size, short(l), e)
	}
	return tab
}

// check holds the table against the words, and answers it.
func check(t *testing.T, key [16]byte, size int, l []api.Share) api.Table {
	t.Helper()
	tab, w := build(t, key, size, l), told(key, size, l)
	if !slices.Equal(tab.Names, w.names) {
		t.Fatalf("% x, %d, %s: the names %q, not %q", key, size, short(l), tab.Names, w.names)
	}
	if !slices.Equal(tab.Slots, w.slots) {
		t.Fatalf("% x, %d, %s: the slots %d, not %d", key, size, short(l), first(tab.Slots), first(w.slots))
	}
	return tab
}

// refuse has Build answer ErrArg, and nothing else.
func refuse(t *testing.T, key [16]byte, size int, l []api.Share) {
	t.Helper()
	if tab, e := maglev.Build(key, size, l); e != api.ErrArg || tab.Names != nil || tab.Slots != nil {
		t.Fatalf("% x, %d, %s: error %d, %d names, %d slots", key, size, short(l), e, len(tab.Names), len(tab.Slots))
	}
}

// same tells whether two tables are alike.
func same(a, b api.Table) bool {
	return slices.Equal(a.Names, b.Names) && slices.Equal(a.Slots, b.Slots)
}

// first is the numbers, or the first of them where they are many.
func first(l []int) []int { return l[:min(len(l), 40)] }

// short is the shares as a text, or the first of them where they are many.
func short(l []api.Share) string {
	s := strconv.Itoa(len(l)) + " shares:"
	for _, x := range l[:min(len(l), 8)] {
		s += " " + strconv.Quote(x.Name[:min(len(x.Name), 24)]) + " " + strconv.Itoa(x.Quanta)
	}
	return s
}
