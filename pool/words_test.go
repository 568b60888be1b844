package pool_test

import (
	"math"
	"slices"
	"strconv"
	"strings"
	"testing"

	"wayleave/api"
	"wayleave/pool"
)

// last is the greatest version.
const last = 1099511627776

// minus is -0.
func minus() float64 { return math.Copysign(0, -1) }

// rightWeights are weights as they may be; wrongWeights are none, -0 not among them.
func rightWeights() []float64 {
	return []float64{0, math.SmallestNonzeroFloat64, 1.0 / 1024, 0.5, 1, 1.5, 3, 999.5, math.Nextafter(1000, 0), 1000}
}

func wrongWeights() []float64 {
	return []float64{-math.SmallestNonzeroFloat64, -1, -1000, math.Nextafter(1000, 2000), 1001, math.MaxFloat64, -math.MaxFloat64, math.Inf(1), math.Inf(-1), math.NaN(), -math.NaN(), math.Float64frombits(0x7ff0000000000001)}
}

// backend is a right one of that name.
func backend(name string) api.Backend {
	return api.Backend{Name: name, Addr: api.Addr{B: [16]byte{10, 0, 0, 1}}, Port: 80, Mac: [6]byte{2, 0, 0, 0, 0, 1}, Weight: 1}
}

// other is a right one of that name, too, which has something else in each other field.
func other(name string) api.Backend {
	a := api.Addr{Six: true, B: [16]byte{0x20, 1, 13: 4, 15: 9}}
	return api.Backend{Name: name, Addr: a, Port: 65535, Mac: [6]byte{1, 2, 3, 4, 5, 6}, Weight: 2.5, Drain: true}
}

// some is a pool of that version, with ordinary backends of these names, each of another port.
func some(version int, names ...string) api.Pool {
	p := api.Pool{Version: version}
	for i, n := range names {
		b := backend(n)
		b.Port += i
		p.Backends = append(p.Backends, b)
	}
	return p
}

// row is a right pool of so many backends, every second of which is of another kind.
func row(n int) api.Pool {
	p := api.Pool{Version: n}
	for i := range n {
		name := "n" + strconv.Itoa(10000+i)
		if b := backend(name); i%2 == 0 {
			p.Backends = append(p.Backends, b)
		} else {
			p.Backends = append(p.Backends, other(name))
		}
	}
	return p
}

// pools are right ones of all kinds.
func pools() []api.Pool {
	one := api.Pool{Version: 7, Backends: []api.Backend{other("b")}}
	mixed := api.Pool{Version: 9, Backends: []api.Backend{backend("-"), other("."), backend("0"), other("a"), backend("a-"), other("a."), backend("aa"), other("z")}}
	weights := api.Pool{Version: last - 1}
	for i, f := range rightWeights() {
		b := backend("w" + strconv.Itoa(i))
		b.Weight, b.Drain = f, i%3 == 2
		weights.Backends = append(weights.Backends, b)
	}
	long := some(4, strings.Repeat("a", 23), strings.Repeat("a", 24), strings.Repeat("a", 23)+"b", strings.Repeat("z", 24))
	return []api.Pool{{}, {Version: 3}, {Version: last}, some(0, "a"), some(1, "m"), one, some(2, "a", "b"), some(5, "a", "ab", "abc", "b"), mixed, weights, long, row(40)}
}

// cloned is the pool in memory of its own.
func cloned(p api.Pool) api.Pool {
	return api.Pool{Version: p.Version, Backends: append([]api.Backend(nil), p.Backends...)}
}

// alike tells whether two numbers are the same by their bits, or both none.
func alike(a, b float64) bool {
	return a != a && b != b || math.Float64bits(a) == math.Float64bits(b)
}

// alikeBackends tells whether two backends are the same, field by field, byte by byte.
func alikeBackends(a, b api.Backend) bool {
	for i := range a.Addr.B {
		if a.Addr.B[i] != b.Addr.B[i] {
			return false
		}
	}
	for i := range a.Mac {
		if a.Mac[i] != b.Mac[i] {
			return false
		}
	}
	return a.Name == b.Name && a.Addr.Six == b.Addr.Six && a.Port == b.Port && a.Drain == b.Drain && alike(a.Weight, b.Weight)
}

// toldSame is Same by the words.
func toldSame(a, b api.Pool) bool {
	if a.Version != b.Version || len(a.Backends) != len(b.Backends) {
		return false
	}
	for i := range a.Backends {
		if !alikeBackends(a.Backends[i], b.Backends[i]) {
			return false
		}
	}
	return true
}

// toldName is Name by the words.
func toldName(s string) bool {
	for _, c := range []byte(s) {
		if !strings.Contains("abcdefghijklmnopqrstuvwxyz0123456789-.", string(rune(c))) {
			return false
		}
	}
	return len(s) >= 1 && len(s) <= 24
}

// toldWeight tells by the words whether a weight is right, -0 too.
func toldWeight(f float64) bool { return f == f && !(f < 0) && !(f > 1000) }

// toldBackend tells by the words whether a backend is right.
func toldBackend(b api.Backend) bool {
	if !b.Addr.Six {
		for i := 4; i < 16; i++ {
			if b.Addr.B[i] != 0 {
				return false
			}
		}
	}
	return toldName(b.Name) && b.Port >= 1 && b.Port <= 65535 && toldWeight(b.Weight) && !math.Signbit(b.Weight)
}

// toldRight is Right by the words.
func toldRight(p api.Pool) bool {
	for i, b := range p.Backends {
		if !toldBackend(b) || i > 0 && !(p.Backends[i-1].Name < b.Name) {
			return false
		}
	}
	return p.Version >= 0 && p.Version <= last && len(p.Backends) <= 1024
}

// toldAt is the place of the backend of that name; -1, if there is none.
func toldAt(p api.Pool, name string) int {
	for i, b := range p.Backends {
		if b.Name == name {
			return i
		}
	}
	return -1
}

// toldErr is the error of what is done, by the words, the version left aside.
func toldErr(p api.Pool, op api.Op) api.Errno {
	at := toldAt(p, op.Name)
	switch op.Kind {
	case api.OpAdd:
		b := op.Backend
		if b.Weight == 0 {
			b.Weight = 0
		}
		if !toldBackend(b) {
			return api.ErrArg
		}
		if toldAt(p, b.Name) >= 0 {
			return api.ErrTwice
		}
		if len(p.Backends) == 1024 {
			return api.ErrFull
		}
		return api.OK
	case api.OpWeight:
		if !toldWeight(op.Weight) {
			return api.ErrArg
		}
	case api.OpRemove, api.OpDrain, api.OpBack:
	default:
		return api.ErrArg
	}
	if at < 0 {
		return api.ErrNone
	}
	if op.Kind == api.OpDrain && p.Backends[at].Drain || op.Kind == api.OpBack && !p.Backends[at].Drain {
		return api.ErrTwice
	}
	return api.OK
}

// toldDo is Do by the words.
func toldDo(p api.Pool, op api.Op) (api.Pool, api.Errno) {
	p = cloned(p)
	if e := toldErr(p, op); e != api.OK {
		return p, e
	}
	if p.Version == last {
		return p, api.ErrFull
	}
	p.Version++
	at, f := toldAt(p, op.Name), op.Weight
	if f == 0 {
		f = 0
	}
	switch op.Kind {
	case api.OpAdd:
		b := op.Backend
		if b.Weight == 0 {
			b.Weight = 0
		}
		p.Backends = append(p.Backends, b)
		slices.SortFunc(p.Backends, func(a, b api.Backend) int { return strings.Compare(a.Name, b.Name) })
	case api.OpRemove:
		p.Backends = append(p.Backends[:at:at], p.Backends[at+1:]...)
	case api.OpWeight:
		p.Backends[at].Weight = f
	default:
		p.Backends[at].Drain = op.Kind == api.OpDrain
	}
	return p, api.OK
}

// checkDo does something to a right pool, holds that against the words, and answers the pool behind it.
func checkDo(t *testing.T, p api.Pool, op api.Op) (api.Pool, api.Errno) {
	t.Helper()
	was := cloned(p)
	want, err := toldDo(p, op)
	q, e := pool.Do(p, op)
	if e != err || !toldSame(q, want) {
		t.Fatalf("%s to %s: %s and %d, not %s and %d", tellOp(op), tell(was), tell(q), e, tell(want), err)
	}
	if !toldSame(p, was) {
		t.Fatalf("%s: %s became %s", tellOp(op), tell(was), tell(p))
	}
	return q, e
}

// tell is a pool as a text, of which long ones are cut.
func tell(p api.Pool) string {
	l := []string{"version " + strconv.Itoa(p.Version) + ":"}
	for i, b := range p.Backends {
		if i == 8 {
			l = append(l, "and more, "+strconv.Itoa(len(p.Backends)))
			break
		}
		l = append(l, tellBackend(b))
	}
	return strings.Join(l, " ")
}

func tellBackend(b api.Backend) string {
	s := strconv.Quote(b.Name) + " " + strconv.Itoa(b.Port) + " " + strconv.FormatFloat(b.Weight, 'g', -1, 64)
	if b.Drain {
		s += " drained"
	}
	return s
}

func tellOp(op api.Op) string {
	return "kind " + strconv.Itoa(op.Kind) + ", " + strconv.Quote(op.Name) + ", " + strconv.FormatFloat(op.Weight, 'g', -1, 64) + ", " + tellBackend(op.Backend)
}

// chance are numbers that look like such by chance, but are the same each time.
type chance uint64

func (c *chance) next() uint64 {
	*c = *c*6364136223846793005 + 1442695040888963407
	n := uint64(*c)
	return (n ^ n>>33) * 0xff51afd7ed558ccd >> 16
}

// below is a number from 0 to n - 1.
func (c *chance) below(n int) int { return int(c.next() % uint64(n)) }

// weight is one of all kinds.
func (c *chance) weight() float64 {
	all := append(append(rightWeights(), minus()), wrongWeights()...)
	if c.below(3) == 0 {
		return all[c.below(len(all))]
	}
	return float64(c.below(2000001)) / 2000
}

// name is one of a few, most of which are right.
func (c *chance) name() string {
	few := []string{"a", "ab", "abc", "b", "ba", "web-1", "web-2", "web.1", "0", "9", "-", ".", "z", strings.Repeat("q", 24), "", "A", strings.Repeat("q", 25)}
	return few[c.below(len(few))]
}

// backend is one of any kind, mostly a right one.
func (c *chance) backend() api.Backend {
	b := api.Backend{Name: c.name(), Port: 1 + c.below(65535), Weight: c.weight(), Drain: c.below(2) == 0}
	b.Addr.Six = c.below(2) == 0
	for i := range b.Addr.B {
		if b.Addr.Six || i < 4 || c.below(150) == 0 {
			b.Addr.B[i] = byte(c.next())
		}
	}
	for i := range b.Mac {
		b.Mac[i] = byte(c.next())
	}
	if c.below(20) == 0 {
		b.Port = []int{-1, 0, 1, 65535, 65536}[c.below(5)]
	}
	return b
}

// op is something to be done, in which all fields are filled in.
func (c *chance) op() api.Op {
	kind := 1 + c.below(5)
	if c.below(20) == 0 {
		kind = c.below(16) - 5
	}
	return api.Op{Kind: kind, Backend: c.backend(), Name: c.name(), Weight: c.weight()}
}
