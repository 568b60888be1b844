package health_test

import (
	"math"
	"slices"
	"strconv"
	"strings"
	"testing"

	"wayleave/api"
	"wayleave/health"
)

// numbers are rise and fall at each edge, and ordinary ones.
func numbers() []int {
	return []int{math.MinInt, math.MinInt + 1, -101, -100, -1, 0, 1, 2, 3, 50, 98, 99, 100, 101, 102, 1000, math.MaxInt - 1, math.MaxInt}
}

// runs are a Run at each edge, and ordinary ones.
func runs() []int {
	return []int{math.MinInt, math.MinInt + 1, -101, -100, -99, -2, -1, 0, 1, 2, 3, 48, 49, 50, 51, 97, 98, 99, 100, 101, 102, 999, 1000, math.MaxInt - 2, math.MaxInt - 1, math.MaxInt}
}

// odd are names without bytes, long ones, such that are no text, and such of which one begins another.
func odd() []string {
	long := strings.Repeat("n", 5000)
	return []string{"", "\x00", "a", "a\x00", "ab", "abc", "b", "A", "B", "Z", "é", "e", "~", "\x7f", "\x80", "\xff", "\xff\xfe", "日本", "-", ".", "0", "10", "9", "web-1", "web-10", "web-2", strings.Repeat("n", 24), strings.Repeat("n", 25), long, long + "a", long + "b", long[:4999]}
}

// results are those of a text: + is a good one, each other a bad one.
func results(s string) []bool {
	var l []bool
	for _, c := range s {
		l = append(l, c == '+')
	}
	return l
}

// every is each text of n results.
func every(n int) []string {
	l := []string{""}
	for range n {
		var longer []string
		for _, s := range l {
			longer = append(longer, s+"-", s+"+")
		}
		l = longer
	}
	return l
}

// toldNumber is what rise and fall count as.
func toldNumber(n int) uint64 {
	if n < 1 {
		return 1
	}
	if n > 100 {
		return 100
	}
	return uint64(n)
}

// toldStep is Step by the words.
func toldStep(h api.Health, well bool, rise, fall int) (api.Health, bool) {
	more := uint64(1)
	if h.Run > 0 {
		more += uint64(h.Run)
	}
	switch {
	case !h.Down && well:
		return api.Health{Name: h.Name}, false
	case !h.Down && more >= toldNumber(fall):
		return api.Health{Name: h.Name, Down: true}, true
	case !h.Down:
		return api.Health{Name: h.Name, Run: int(more)}, false
	case !well:
		return api.Health{Name: h.Name, Down: true}, false
	case more >= toldNumber(rise):
		return api.Health{Name: h.Name}, true
	}
	return api.Health{Name: h.Name, Down: true, Run: int(more)}, false
}

// toldRun is Run by the words, step by step.
func toldRun(h api.Health, l []bool, rise, fall int) (api.Health, int) {
	n := 0
	for i := range l {
		was := h.Down
		if h, _ = toldStep(h, l[i], rise, fall); h.Down != was {
			n++
		}
	}
	return h, n
}

// toldNew is what a new health comes to, without a step: by the stretches that are long enough, and by the last one.
func toldNew(l []bool, rise, fall int) (api.Health, int) {
	h, n := api.Health{}, 0
	for i := 0; i < len(l); {
		j := i
		for j < len(l) && l[j] == l[i] {
			j++
		}
		need := toldNumber(fall)
		if l[i] {
			need = toldNumber(rise)
		}
		if h.Run = 0; uint64(j-i) >= need {
			if h.Down == l[i] {
				n++
			}
			h.Down = !l[i]
		} else if h.Down == l[i] {
			h.Run = j - i
		}
		i = j
	}
	return h, n
}

// toldSync is Sync by the words.
func toldSync(l []api.Health, names []string) []api.Health {
	var s []api.Health
	for _, name := range names {
		h := api.Health{Name: name}
		for i := len(l) - 1; i >= 0; i-- {
			if l[i].Name == name {
				h = l[i]
			}
		}
		at := 0
		for at < len(s) && lower(s[at].Name, name) {
			at++
		}
		if at == len(s) || s[at].Name != name {
			s = slices.Insert(s, at, h)
		}
	}
	return s
}

// lower tells whether a comes ahead of b, byte by byte.
func lower(a, b string) bool {
	for i := 0; i < len(a) && i < len(b); i++ {
		if a[i] != b[i] {
			return a[i] < b[i]
		}
	}
	return len(a) < len(b)
}

// toldSet is Set by the words.
func toldSet(l []api.Health, name string, well bool, rise, fall int) ([]api.Health, bool, api.Errno) {
	s := append([]api.Health(nil), l...)
	for i := range s {
		if s[i].Name == name {
			h, is := toldStep(s[i], well, rise, fall)
			s[i] = h
			return s, is, api.OK
		}
	}
	return s, false, api.ErrNone
}

// toldDown is Down by the words.
func toldDown(l []api.Health) []string {
	var s []string
	for i := range l {
		if l[i].Down {
			s = append(s, l[i].Name)
		}
	}
	return s
}

// checkStep holds a step against the words.
func checkStep(t *testing.T, h api.Health, well bool, rise, fall int) {
	t.Helper()
	want, turned := toldStep(h, well, rise, fall)
	if got, is := health.Step(h, well, rise, fall); got != want || is != turned {
		t.Fatalf("%s, %t, %d, %d: %s %t, not %s %t", tell(h), well, rise, fall, tell(got), is, tell(want), turned)
	}
}

// checkRun holds a run against the words, and answers it.
func checkRun(t *testing.T, h api.Health, l []bool, rise, fall int) (api.Health, int) {
	t.Helper()
	want, turns := toldRun(h, l, rise, fall)
	got, n := health.Run(h, l, rise, fall)
	if got != want || n != turns {
		t.Fatalf("%s, %s, %d, %d: %s %d, not %s %d", tell(h), tellResults(l), rise, fall, tell(got), n, tell(want), turns)
	}
	return got, n
}

// checkSync holds Sync against the words, and answers it.
func checkSync(t *testing.T, l []api.Health, names []string) []api.Health {
	t.Helper()
	want, got := toldSync(l, names), health.Sync(l, names)
	if !slices.Equal(got, want) {
		t.Fatalf("%s for %q: %s, not %s", tellAll(l), names, tellAll(got), tellAll(want))
	}
	return got
}

// checkSet holds Set against the words, and answers it.
func checkSet(t *testing.T, l []api.Health, name string, well bool, rise, fall int) ([]api.Health, bool, api.Errno) {
	t.Helper()
	want, turned, err := toldSet(l, name, well, rise, fall)
	got, is, e := health.Set(l, name, well, rise, fall)
	if !slices.Equal(got, want) || is != turned || e != err {
		t.Fatalf("%s, %q, %t, %d, %d: %s %t %d, not %s %t %d", tellAll(l), name, well, rise, fall, tellAll(got), is, e, tellAll(want), turned, err)
	}
	return got, is, e
}

// checkDown holds Down against the words.
func checkDown(t *testing.T, l []api.Health) {
	t.Helper()
	if want, got := toldDown(l), health.Down(l); !slices.Equal(got, want) {
		t.Fatalf("%s: %q, not %q", tellAll(l), got, want)
	}
}

// tell is a health as a text.
func tell(h api.Health) string {
	s := strconv.Quote(h.Name[:min(len(h.Name), 30)]) + " up "
	if h.Down {
		s = strconv.Quote(h.Name[:min(len(h.Name), 30)]) + " down "
	}
	return s + strconv.Itoa(h.Run)
}

// tellAll are healths as a text, of which long ones are cut.
func tellAll(l []api.Health) string {
	var s []string
	for _, h := range l[:min(len(l), 12)] {
		s = append(s, tell(h))
	}
	return strconv.Itoa(len(l)) + ": " + strings.Join(s, ", ")
}

// tellResults are results as a text.
func tellResults(l []bool) string {
	s := ""
	for _, well := range l {
		if well {
			s += "+"
		} else {
			s += "-"
		}
	}
	return s
}

// chance are numbers that look like such by chance, but are the same each time.
type chance uint64

func (c *chance) next() uint64 {
	*c = *c*6364136223846793005 + 1442695040888963407
	n := uint64(*c)
	return (n ^ n>>33) * 0xff51afd7ed558ccd >> 16
}

// below is a number from 0 to n - 1.
func (c *chance) below(n int) int { return int(c.next() % uint64(n)) }

// number is one of an edge, or an ordinary one, mostly small.
func (c *chance) number() int {
	if l := numbers(); c.below(3) == 0 {
		return l[c.below(len(l))]
	}
	return 1 + c.below(6)
}

// run is a Run of an edge, or an ordinary one.
func (c *chance) run() int {
	if l := runs(); c.below(3) == 0 {
		return l[c.below(len(l))]
	}
	return c.below(7)
}

// name is one of a few.
func (c *chance) name() string {
	few := [14]string{"", "\x00", "a", "a\x00", "ab", "abc", "b", "A", "B", "Z", "é", "\xff", "m", "q"}
	return few[c.below(len(few))]
}

// health is one of any kind.
func (c *chance) health() api.Health {
	return api.Health{Name: c.name(), Down: c.below(2) == 0, Run: c.run()}
}

// healths are so many of any kind.
func (c *chance) healths(n int) []api.Health {
	var l []api.Health
	for range n {
		l = append(l, c.health())
	}
	return l
}

// names are so many of a few.
func (c *chance) names(n int) []string {
	var l []string
	for range n {
		l = append(l, c.name())
	}
	return l
}

// results are so many, in stretches that are short or long.
func (c *chance) results(n int) []bool {
	var l []bool
	well, turns := c.below(2) == 0, 1+c.below(8)
	for range n {
		if c.below(turns) == 0 {
			well = !well
		}
		l = append(l, well)
	}
	return l
}
