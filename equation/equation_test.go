package equation

import (
	"fmt"
	"math/rand"
	"slices"
	"testing"

	"coverability/api"
	"coverability/counter"
	"coverability/order"
	"coverability/run"
	"coverability/syntax"
	"coverability/values"
)

func parse(text string) api.Model {
	m, line, e := syntax.Parse(text)
	if e != api.OK {
		panic([]any{text, line, e})
	}
	return m
}

func val(s string) api.Value {
	v, e := order.Parse(s)
	if e != api.OK {
		panic(s)
	}
	return v
}

func text(rules int) string {
	s := "model counter\nstates a\nplaces x\n"
	for i := range rules {
		s += fmt.Sprintf("rule r%d a -> a give x 1\n", i)
	}
	return s + "start 0(0 0)\n"
}

func sample() api.Model {
	return parse("model counter\nstates a b\nplaces x y\nrule up a -> a give x 2\nrule go a -> b need x 3 give y 1\nrule back b -> a need y 1 give x 3\nstart 0(0 0 0)")
}

// TestErrors checks the errors of P34.1 and P34.2, in order.
func TestErrors(t *testing.T) {
	for _, x := range []struct {
		m api.Model
		e api.Errno
	}{{parse(text(7)), api.ErrShape}, {parse(text(0)), api.ErrKind}, {parse("model branching\nstates a\nplaces x"), api.ErrKind}, {parse("model counter\nstates a\nplaces x\nrule r a -> a empty x\nstart 0(0 0)"), api.ErrKind}, {api.Model{Kind: 1}, api.ErrLimit}, {sample(), api.ErrConfig}} {
		_, e1 := Counts(x.m, val("0"), 99)
		_, e2 := Solves(x.m, val("0"), nil)
		_, e3 := Flows(x.m, 99)
		want := x.e
		if want == api.ErrConfig {
			want = api.ErrRange
		}
		if e1 != x.e || e2 != x.e || e3 != want {
			t.Errorf("errors %d, %d, %d and not %d", e1, e2, e3, x.e)
		}
		if _, ok, e := Realise(x.m, []int{-1}); ok || e != x.e && e != api.ErrLength {
			t.Errorf("Realise gives %v, %d", ok, e)
		}
	}
	for _, most := range []int{-1, 11} {
		if _, e := Counts(sample(), val("0(0 0 0)"), most); e != api.ErrRange {
			t.Errorf("Counts with %d gives %d", most, e)
		}
	}
	for _, x := range []struct {
		counts []int
		e      api.Errno
	}{{[]int{0, 0}, api.ErrLength}, {[]int{0, -1, 0}, api.ErrRange}, {[]int{5, 5, 1}, api.ErrRange}, {[]int{1 << 62, 1 << 62, 0}, api.ErrRange}, {[]int{8, 1, 1}, api.OK}} {
		if l, ok, e := Realise(sample(), x.counts); e != x.e || ok != (e == api.OK) || !ok && l != nil {
			t.Errorf("Realise(%v) gives %v, %v, %d", x.counts, l, ok, e)
		}
	}
	if l, ok, e := Realise(parse(text(12)), []int{1, 0, 0, 0, 0, 0, 0, 0, 0, 0, 0, 2}); e != api.OK || !ok || len(l) != 3 {
		t.Errorf("Realise with 12 rules gives %v, %v, %d", l, ok, e)
	}
}

// TestExamples checks P34.1 and P34.2 by hand.
func TestExamples(t *testing.T) {
	up := parse("model counter\nstates a\nplaces x\nrule r a -> a give x 2\nstart 0(0 0)")
	if l, e := Counts(up, val("0(0 6)"), 10); e != api.OK || fmt.Sprint(l) != "[[3]]" {
		t.Errorf("Counts gives %v, %d", l, e)
	}
	if l, e := Counts(up, val("0(0 5)"), 10); e != api.OK || len(l) != 0 {
		t.Errorf("Counts gives %v, %d", l, e)
	}
	if l, e := Counts(sample(), val("0(0 1 1)"), 10); e != api.OK || fmt.Sprint(l) != "[[2 1 0]]" {
		t.Errorf("Counts gives %v, %d", l, e)
	}
	if l, e := Flows(sample(), 10); e != api.OK || fmt.Sprint(l) != "[[0 1 1]]" {
		t.Errorf("Flows gives %v, %d", l, e)
	}
	for _, x := range []struct {
		counts []int
		ok     bool
	}{{[]int{2, 1, 0}, true}, {[]int{2, 2, 1}, true}, {[]int{2, 1, 1}, false}, {[]int{2, 1}, false}, {[]int{2, 1, -1}, false}} {
		if ok, e := Solves(sample(), val("0(1 1 1)"), x.counts); e != api.OK || ok != x.ok {
			t.Errorf("Solves(%v) gives %v, %d", x.counts, ok, e)
		}
	}
	l, ok, e := Realise(sample(), []int{2, 2, 1})
	want := []api.Step{{Rule: 0, Config: val("0(0 2 0)")}, {Rule: 0, Config: val("0(0 4 0)")}, {Rule: 1, Config: val("0(1 1 1)")}, {Rule: 2, Config: val("0(0 4 0)")}, {Rule: 1, Config: val("0(1 1 1)")}}
	if e != api.OK || !ok || !values.SameSteps(l, want) {
		t.Errorf("Realise gives %v, %v, %d", l, ok, e)
	}
	if l, ok, e := Realise(sample(), []int{1, 1, 0}); e != api.OK || ok || l != nil {
		t.Errorf("Realise gives %v, %v, %d", l, ok, e)
	}
	if l, ok, e := Realise(sample(), []int{0, 0, 0}); e != api.OK || !ok || len(l) != 0 {
		t.Errorf("Realise of nothing gives %v, %v, %d", l, ok, e)
	}
	high := parse("model counter\nstates a\nplaces x\nrule r a -> a give x 1\nrule s a -> a need x 1\nstart 0(0 1048576)")
	if l, ok, e := Realise(high, []int{1, 1}); e != api.OK || !ok || l[0].Rule != 1 {
		t.Errorf("Realise at MaxNumber gives %v, %v, %d", l, ok, e)
	}
	if c, e := Parikh(sample(), want); e != api.OK || !slices.Equal(c, []int{2, 2, 1}) {
		t.Errorf("Parikh gives %v, %d", c, e)
	}
	for _, rule := range []int{-1, 3} {
		if c, e := Parikh(sample(), []api.Step{{Rule: rule}}); e != api.ErrRule || c != nil {
			t.Errorf("Parikh gives %v, %d", c, e)
		}
	}
	if _, e := Parikh(api.Model{}, nil); e != api.ErrKind {
		t.Errorf("Parikh gives %d", e)
	}
}

// least returns the least run with counts, by trying all.
func least(m api.Model, at api.Value, counts []int) ([]int, bool) {
	if slices.Max(counts) == 0 {
		return nil, true
	}
	for rule := range counts {
		if counts[rule] == 0 {
			continue
		}
		c, e := counter.Apply(m, rule, at)
		if e != api.OK {
			continue
		}
		rest := slices.Clone(counts)
		rest[rule]--
		if l, ok := least(m, c, rest); ok {
			return append([]int{rule}, l...), true
		}
	}
	return nil, false
}

// TestLaws checks P34.2 and the consequences for random models.
func TestLaws(t *testing.T) {
	r := rand.New(rand.NewSource(18))
	for range 400 {
		m := api.Model{Kind: api.KindCounter, States: []string{"a", "b"}, Places: []string{"x", "y"}, Start: values.Counter(0, []int{r.Intn(3), r.Intn(3)})}
		for i := range 1 + r.Intn(3) {
			m.Rules = append(m.Rules, api.Rule{Name: "r" + string(rune('0'+i)), From: r.Intn(2), To: r.Intn(2), Need: []int{r.Intn(3), r.Intn(3)}, Give: []int{r.Intn(3), r.Intn(2)}})
		}
		counts := make([]int, len(m.Rules))
		for i := range counts {
			counts[i] = r.Intn(3)
		}
		want, found := least(m, m.Start, counts)
		l, ok, e := Realise(m, counts)
		if e != api.OK || ok != found {
			t.Fatalf("%v: Realise(%v) gives %v, %v, %d", m, counts, l, ok, e)
		}
		if !ok {
			continue
		}
		last, n, e := run.Replay(m, l)
		if e != api.OK || n != len(want) {
			t.Fatalf("%v: Realise(%v) gives %v", m, counts, l)
		}
		for i, s := range l {
			if s.Rule != want[i] {
				t.Fatalf("%v: Realise(%v) gives %v and not %v", m, counts, l, want)
			}
		}
		back, _ := Parikh(m, l)
		if ok, e := Solves(m, last, back); e != api.OK || !ok || !slices.Equal(back, counts) {
			t.Fatalf("%v: %v does not solve the equation for %v", m, back, last)
		}
	}
}

// TestMost checks P34.1 and P34.2: as many rules, and as often, as there may be, and that errors come alone.
func TestMost(t *testing.T) {
	six := parse(text(6))
	if l, e := Counts(six, val("0(0 1)"), 10); e != api.OK || len(l) != 6 {
		t.Errorf("Counts gives %v, %d", l, e)
	}
	if l, ok, e := Realise(parse(text(1)), []int{10}); e != api.OK || !ok || len(l) != 10 {
		t.Errorf("Realise gives %v, %v, %d", l, ok, e)
	}
	if _, ok, e := Realise(parse(text(1)), []int{11}); e != api.ErrRange || ok {
		t.Errorf("Realise gives %v, %d", ok, e)
	}
	if ok, e := Solves(six, val("0"), nil); e != api.ErrConfig || ok {
		t.Errorf("Solves gives %v, %d", ok, e)
	}
}
