package flow_test

import (
	"math"
	"slices"
	"strconv"
	"strings"
	"testing"

	"wayleave/api"
	"wayleave/flow"
)

// alter is a flow, what was done to it, and whether it is right.
type alter struct {
	what string
	f    api.Flow
	ok   bool
}

// base is a right flow, of IPv4 or IPv6.
func base(six bool) api.Flow {
	f := api.Flow{Key: api.Tuple{Src: api.Addr{B: [16]byte{1, 2, 3, 4}}, Dst: api.Addr{B: [16]byte{5, 6, 7, 8}}, Proto: api.ProtoTcp, Sport: 9, Dport: 80}, Name: "web", State: api.Open, Seen: 7, No: 8}
	if six {
		f.Key.Src = api.Addr{Six: true, B: [16]byte{32, 1, 15: 1}}
		f.Key.Dst = api.Addr{Six: true, B: [16]byte{32, 1, 15: 2}}
	}
	return f
}

// altered are flows that differ from a right one in one field.
func altered() []alter {
	var l []alter
	for _, six := range []bool{false, true} {
		put := func(what string, ok bool, change func(f *api.Flow)) {
			f := base(six)
			change(&f)
			l = append(l, alter{what + " " + strconv.FormatBool(six), f, ok})
		}
		put("as it is", true, func(f *api.Flow) {})
		put("Src of the other family", false, func(f *api.Flow) { f.Key.Src.Six = !six })
		put("Dst of the other family", false, func(f *api.Flow) { f.Key.Dst.Six = !six })
		put("no address", true, func(f *api.Flow) { f.Key.Src.B, f.Key.Dst.B = [16]byte{}, [16]byte{} })
		put("the same address", true, func(f *api.Flow) { f.Key.Src = f.Key.Dst })
		for i := range 16 {
			for _, n := range []byte{1, 128, 255} {
				what := " byte " + strconv.Itoa(i) + " " + strconv.Itoa(int(n))
				put("Src"+what, six || i < 4, func(f *api.Flow) { f.Key.Src.B[i] = n })
				put("Dst"+what, six || i < 4, func(f *api.Flow) { f.Key.Dst.B[i] = n })
				put("both"+what, six || i < 4, func(f *api.Flow) { f.Key.Src.B[i], f.Key.Dst.B[i] = n, n })
			}
		}
		for _, field := range fields() {
			for _, n := range field.right {
				put(field.name+" "+strconv.Itoa(n), true, func(f *api.Flow) { *field.of(f) = n })
			}
			for _, n := range append(strangest(), field.wrong...) {
				put(field.name+" "+strconv.Itoa(n), false, func(f *api.Flow) { *field.of(f) = n })
			}
		}
		for _, s := range []string{"a", "z", "0", "9", "-", ".", "web", "top-1.b", strings.Repeat("m", 23), strings.Repeat("m", 24), "web.", "-web"} {
			put("Name "+s, true, func(f *api.Flow) { f.Name = s })
		}
		for _, s := range []string{"", "A", "Web", "we b", "web_", "web\x00", "\xff", "w\u00e9b", "web/", "`", "{", ",", ":", "@", strings.Repeat("m", 25), strings.Repeat("m", 255), strings.Repeat("m", 1024)} {
			put("Name "+s, false, func(f *api.Flow) { f.Name = s })
		}
	}
	return l
}

// strangest are numbers that no field may have.
func strangest() []int {
	return []int{-1, math.MinInt, math.MinInt + 1, math.MaxInt, math.MaxInt - 1, -2, -6, -65536, -1 << 32, math.MinInt + 6, -1 << 40, -1 << 60, 1<<60 + 1, 1<<62 + 6}
}

// field is a number that a flow has, with those that are right, and those that aren't.
type field struct {
	name         string
	of           func(f *api.Flow) *int
	right, wrong []int
}

// fields are all numbers that a flow has.
func fields() []field {
	ports := []int{0, 1, 9, 80, 255, 256, 32767, 32768, 65534, 65535}
	beyond := []int{65536, 65537, 65536 + 80, 1 << 17, 1 << 32, 1<<32 + 80, 1 << 40}
	return []field{
		{"Proto", func(f *api.Flow) *int { return &f.Key.Proto }, []int{0, 1, 6, 17, 58, 127, 128, 254, 255}, []int{256, 257, 256 + 6, 512, 65535, 1<<32 + 6}},
		{"Sport", func(f *api.Flow) *int { return &f.Key.Sport }, ports, beyond},
		{"Dport", func(f *api.Flow) *int { return &f.Key.Dport }, ports, beyond},
		{"State", func(f *api.Flow) *int { return &f.State }, []int{1, 2, 3, 4, 5}, []int{0, 6, 7, 8, 16, 256 + 2, 1<<32 + 2}},
		{"Seen", func(f *api.Flow) *int { return &f.Seen }, []int{0, 1, 2, 1 << 20, 1 << 32, 1<<40 - 1, 1 << 40}, []int{1<<40 + 1, 1 << 41, 1 << 60}},
		{"No", func(f *api.Flow) *int { return &f.No }, []int{0, 1, 2, 1 << 32, 1 << 40, 1<<40 + 1, 1<<60 - 1, 1 << 60}, []int{1 << 61, 1 << 62}},
	}
}

// P21.1: flows that are right but for one field.
func TestRightFields(t *testing.T) {
	for _, x := range altered() {
		if toldRight(x.f) != x.ok {
			t.Error("the words:", x.what)
		}
		if flow.Right(x.f) != x.ok {
			t.Error(x.what)
		}
	}
}

// P21.1: api.Flow{}, and what has nothing but a key, isn't right.
func TestRightEmpty(t *testing.T) {
	if flow.Right(api.Flow{}) || flow.Right(api.Flow{Key: tuple(0)}) || flow.Right(api.Flow{Name: "web"}) || flow.Right(api.Flow{State: 1}) {
		t.Error("right")
	}
	// The key of all zero is a right one.
	if !flow.Right(api.Flow{Name: "a", State: api.Opening}) {
		t.Error("not right")
	}
}

// P21.1: each protocol of a byte, and none beyond.
func TestRightProtos(t *testing.T) {
	for proto := -300; proto < 800; proto++ {
		f := base(false)
		f.Key.Proto = proto
		if flow.Right(f) != (proto >= 0 && proto < 256) {
			t.Error(proto)
		}
	}
}

// P21.1: each port of two bytes, and none beyond.
func TestRightPorts(t *testing.T) {
	for port := -70000; port < 140000; port++ {
		one, two := base(true), base(true)
		one.Key.Sport, two.Key.Dport = port, port
		if want := port >= 0 && port < 65536; flow.Right(one) != want || flow.Right(two) != want {
			t.Fatal(port)
		}
	}
}

// P21.1: each byte in a name, at each place of one.
func TestRightNames(t *testing.T) {
	for n := 1; n <= 26; n++ {
		for at := range n {
			for c := range 256 {
				name := []byte(strings.Repeat("a", n))
				name[at] = byte(c)
				f := base(false)
				f.Name = string(name)
				if flow.Right(f) != toldRight(f) {
					t.Fatalf("%q", name)
				}
			}
		}
	}
}

// P21.1: two fields that are altered at once: right alone if each of both is.
func TestRightTwo(t *testing.T) {
	all := fields()
	for i, x := range all {
		for j, y := range all {
			if i == j {
				continue
			}
			for _, m := range slices.Concat(x.right, x.wrong, strangest()) {
				for _, n := range slices.Concat(y.right, y.wrong, strangest()) {
					f := base(i < j)
					*x.of(&f), *y.of(&f) = m, n
					if want := slices.Contains(x.right, m) && slices.Contains(y.right, n); flow.Right(f) != want || toldRight(f) != want {
						t.Fatal(tell(f), want)
					}
				}
			}
		}
	}
}

// P21.1: flows of any numbers against the words.
func TestRightByWords(t *testing.T) {
	c := chance(211)
	rights := 0
	for range 30000 {
		f := base(c.below(2) == 0)
		for range c.below(4) {
			x := fields()[c.below(6)]
			*x.of(&f) = c.of(slices.Concat(x.right, x.right, x.right, x.wrong))
		}
		if c.below(4) == 0 {
			f.Key.Src.B[c.below(16)] = byte(c.next())
		}
		if c.below(8) == 0 {
			f.Key.Dst.Six = !f.Key.Dst.Six
		}
		want := toldRight(f)
		if flow.Right(f) != want {
			t.Fatal(tell(f), want)
		}
		if want {
			rights++
		}
	}
	if rights < 5000 || rights > 25000 {
		t.Error(rights)
	}
}
