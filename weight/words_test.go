package weight_test

import (
	"encoding/hex"
	"math"
	"math/big"
	"strings"
	"testing"

	"wayleave/weight"
)

// most is how many quanta the greatest weight has.
const most = 1024000

// none is the bits of which each NaN's bytes are.
const none = 0x7ff8000000000000

// The bits of a float64: the sign, all of the exponent, all of what is behind it, and the highest of that.
const (
	signBit  = 0x8000000000000000
	exponent = 0x7ff0000000000000
	behind   = 0x000fffffffffffff
	highest  = 0x0008000000000000
)

// known is the bytes that the text tells in hexadecimal.
func known(s string) []byte {
	b, err := hex.DecodeString(strings.ReplaceAll(s, " ", ""))
	if err != nil {
		panic(err)
	}
	return b
}

// eight are the bytes of the bits, the highest first.
func eight(n uint64) []byte {
	b := make([]byte, 8)
	for i := range b {
		b[7-i] = byte(n)
		n /= 256
	}
	return b
}

// minus is 0 with a sign.
func minus() float64 { return math.Copysign(0, -1) }

// of is the float64 of the bits.
func of(n uint64) float64 { return math.Float64frombits(n) }

// chance are numbers that look like such by chance, but are the same each time.
type chance uint64

func (c *chance) next() uint64 {
	*c = *c*6364136223846793005 + 1442695040888963407
	n := uint64(*c)
	return (n ^ n>>33) * 0xff51afd7ed558ccd
}

// value is the number of the bits, as so many times 2 to the power of by, without its sign; false, if it is NaN or infinite.
func value(n uint64) (times *big.Int, by int, ok bool) {
	e, m := int(n&exponent>>52), n&behind
	switch e {
	case 0:
		return new(big.Int).SetUint64(m), -1074, true
	case 2047:
		return nil, 0, false
	}
	return new(big.Int).SetUint64(m + behind + 1), e - 1075, true
}

// toldQuanta is what the chapter's words tell of the bits: the quanta, and whether the weight is right.
func toldQuanta(n uint64) (int, bool) {
	m, by, ok := value(n)
	if !ok || n&signBit != 0 && m.Sign() != 0 {
		return 0, false
	}
	// The number is right, if it isn't greater than 1000.
	m.Lsh(m, 1100)
	m.Rsh(m, uint(-min(by, 0)))
	m.Lsh(m, uint(max(by, 0)))
	if m.Cmp(new(big.Int).Lsh(big.NewInt(1000), 1100)) > 0 {
		return 0, false
	}
	return int(m.Rsh(m, 1090).Int64()), true
}

// isNaN tells whether the bits are those of a NaN.
func isNaN(n uint64) bool { return n&exponent == exponent && n&behind != 0 }

// toldBits are the bits that are told for those of a float64.
func toldBits(n uint64) uint64 {
	if isNaN(n) {
		return none
	}
	return n
}

// nans are bits of NaN of many kinds.
func nans() []uint64 {
	l := []uint64{math.Float64bits(math.NaN()), 0x7ff4000000000000, 0x7ff8000000000007, 0x7fffffff00000000, 0x7ff00000ffffffff, 0x7ffdeadbeefcafe0}
	for i := range 52 {
		l = append(l, exponent|1<<i, exponent|highest|1<<i, exponent|behind&^(1<<i))
	}
	l = append(l, exponent|behind, exponent|behind-highest, none)
	for _, n := range l[:len(l):len(l)] {
		l = append(l, n|signBit)
	}
	return l
}

// edges are the bits of numbers with an edge, each with both signs, and of the infinities.
func edges() []uint64 {
	l := []uint64{
		0, 1, 2, // the least ones
		behind - 1, behind, behind + 1, behind + 2, // the greatest without a leading bit, the least with one
		exponent - 2, exponent - 1, exponent, // the greatest, and infinity
	}
	for _, f := range []float64{1000, 999, 1001, 1024, 512, 1, 0.5, 2, 1.5, 3.5, 1.0 / 3, 1.0 / 1024, 1.0 / 2048, 1e-9, 1e9, 1e18, 1e19, 1e38, 1e300, math.MaxInt64, math.MaxInt32, math.MaxUint64, 1 << 53, math.MaxInt64 / 1024, math.MaxUint64 / 1024, math.MaxFloat32, math.Pi} {
		n := math.Float64bits(f)
		l = append(l, n-1, n, n+1)
	}
	for e := range uint64(2047) {
		l = append(l, e<<52, e<<52|0xabcdef0123456)
	}
	for i := range 64 {
		l = append(l, 1<<i, 1<<i-1)
	}
	for _, n := range l[:len(l):len(l)] {
		l = append(l, n^signBit)
	}
	return l
}

// many are the bits of edges, of NaN, and of many float64 by chance: of any bits, and of weights.
func many() []uint64 {
	l := append(edges(), nans()...)
	c := chance(14)
	for range 20000 {
		n := c.next()
		// The exponents from 2 to the power of -12 up to 2 to the power of 11.
		near := (1011+c.next()%24)<<52 | c.next()&behind
		l = append(l, n, near, near|signBit, exponent|n)
	}
	return l
}

// checkNumber holds Right and Quanta of the bits against the words.
func checkNumber(t *testing.T, n uint64) {
	t.Helper()
	want, ok := toldQuanta(n)
	got, is := weight.Quanta(of(n))
	if got != want || is != ok {
		t.Fatalf("Quanta of %x, %v: %d %v, not %d %v", n, of(n), got, is, want, ok)
	}
	if weight.Right(of(n)) != ok {
		t.Fatalf("Right of %x, %v: not %v", n, of(n), ok)
	}
}
