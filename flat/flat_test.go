package flat

import (
	"fmt"
	"math/rand"
	"slices"
	"testing"

	"coverability/api"
	"coverability/counter"
	"coverability/semilinear"
	"coverability/syntax"
	"coverability/values"
)

func parse(text string) api.Model {
	m, line, e := syntax.Parse(text)
	if e != api.OK {
		panic([]any{text, line, e})
	}
	return m
}

func sample() api.Model {
	return parse(`model counter
states a b
places x y
rule down a -> a need x 2 give x 1
rule up a -> a give y 2
rule go a -> b need x 1 give y 4
rule back b -> a need y 3 give x 1
rule idle b -> b
start 0(0 0 0)`)
}

// TestCheck checks P30.1.
func TestCheck(t *testing.T) {
	for _, x := range []struct {
		cycle []int
		state int
		e     api.Errno
	}{{[]int{0}, 0, api.OK}, {[]int{2, 3}, 0, api.OK}, {[]int{3, 2}, 1, api.OK}, {[]int{4}, 1, api.OK}, {[]int{2}, 0, api.ErrCycle}, {[]int{2, 2}, 0, api.ErrCycle}, {[]int{0, 3}, 0, api.ErrCycle}, {nil, 0, api.ErrCycle}, {[]int{5}, 0, api.ErrRule}, {[]int{2, -1}, 0, api.ErrRule},
		{make([]int, 65), 0, api.ErrLimit}, {make([]int, 64), 0, api.OK}} {
		s, e := Check(sample(), x.cycle)
		if s != x.state || e != x.e {
			t.Errorf("Check(%v) gives %d, %d", x.cycle, s, e)
		}
		_, _, e1 := Times(sample(), x.cycle, []int{0, 0})
		_, e2 := After(sample(), x.cycle, []int{0, 0}, 0)
		_, _, e3 := Reaches(sample(), x.cycle, []int{0, 0}, []int{0, 0})
		_, e4 := Set(sample(), x.cycle, []int{0, 0})
		if e1 != x.e || e2 != x.e || e3 != x.e || x.e != api.OK && e4 != x.e {
			t.Errorf("errors %d, %d, %d, %d for %v", e1, e2, e3, e4, x.cycle)
		}
	}
	moves := parse("model counter\nstates a\nplaces x\nrule r a -> a empty x\nstart 0(0 0)")
	if _, e := Check(moves, nil); e != api.ErrKind {
		t.Errorf("Check gives %d", e)
	}
	if _, e := Cycles(moves, 9, 9); e != api.ErrKind {
		t.Errorf("Cycles gives %d", e)
	}
	if _, e := Check(api.Model{Kind: 1}, nil); e != api.ErrLimit {
		t.Errorf("Check gives %d", e)
	}
}

// TestTimes checks P30.2 by hand.
func TestTimes(t *testing.T) {
	for _, x := range []struct {
		cycle, v []int
		n        int
		ok       bool
		e        api.Errno
	}{{[]int{0}, []int{5, 0}, 4, true, api.OK}, {[]int{0}, []int{2, 0}, 1, true, api.OK}, {[]int{0}, []int{1, 0}, 0, true, api.OK}, {[]int{1}, []int{0, 0}, 0, false, api.OK}, {[]int{2, 3}, []int{1, 0}, 0, false, api.OK}, {[]int{2, 3}, []int{0, 9}, 0, true, api.OK},
		{[]int{4}, []int{0, 0}, 0, false, api.OK}, {[]int{0}, []int{-1}, 0, false, api.ErrRange}, {[]int{0}, []int{1}, 0, false, api.ErrLength}, {[]int{0}, []int{api.Omega, 0}, 0, false, api.ErrRange}, {[]int{0, 1}, []int{3, 0}, 2, true, api.OK}} {
		if n, ok, e := Times(sample(), x.cycle, x.v); n != x.n || ok != x.ok || e != x.e {
			t.Errorf("Times(%v, %v) gives %d, %v, %d", x.cycle, x.v, n, ok, e)
		}
	}
	const most = api.MaxNumber
	for _, x := range []struct {
		cycle, v []int
		n        int
		out      []int
		e        api.Errno
	}{
		{[]int{0}, []int{5, 0}, 4, []int{1, 0}, api.OK}, {[]int{0}, []int{5, 0}, 5, nil, api.ErrBlocked}, {[]int{0}, []int{5, 0}, -1, nil, api.ErrRange}, {[]int{0}, []int{5}, -1, nil, api.ErrLength}, {[]int{1}, []int{0, 0}, most / 2, []int{0, most}, api.OK},
		{[]int{1}, []int{0, 0}, most/2 + 1, nil, api.ErrLimit}, {[]int{1}, []int{0, 0}, 1 << 62, nil, api.ErrLimit}, {[]int{4}, []int{3, 4}, 1<<63 - 1, []int{3, 4}, api.OK}, {[]int{2, 3}, []int{1, most - 4}, 1, []int{1, most - 3}, api.OK},
		{[]int{2, 3}, []int{1, most - 3}, 1, nil, api.ErrLimit}, {[]int{2, 3}, []int{1, most - 3}, 0, []int{1, most - 3}, api.OK}, {[]int{2, 3}, []int{1, most - 5}, 2, []int{1, most - 3}, api.OK}, {[]int{2, 3}, []int{1, most - 5}, 3, nil, api.ErrLimit},
	} {
		if v, e := After(sample(), x.cycle, x.v, x.n); e != x.e || !slices.Equal(v, x.out) {
			t.Errorf("After(%v, %v, %d) gives %v, %d", x.cycle, x.v, x.n, v, e)
		}
	}
	for _, x := range []struct {
		cycle, v, w []int
		n           int
		ok          bool
		e           api.Errno
	}{
		{[]int{0}, []int{5, 0}, []int{1, 0}, 4, true, api.OK}, {[]int{0}, []int{5, 0}, []int{0, 0}, 0, false, api.OK}, {[]int{0}, []int{5, 0}, []int{6, 0}, 0, false, api.OK}, {[]int{0}, []int{5, 0}, []int{5, 0}, 0, true, api.OK}, {[]int{1}, []int{0, 0}, []int{0, 3}, 0, false, api.OK},
		{[]int{1}, []int{0, 0}, []int{0, 6}, 3, true, api.OK}, {[]int{4}, []int{1, 1}, []int{1, 1}, 0, true, api.OK}, {[]int{4}, []int{1, 1}, []int{1, 2}, 0, false, api.OK}, {[]int{0}, []int{5, 0}, []int{1}, 0, false, api.ErrLength}, {[]int{0}, []int{5}, []int{-1}, 0, false, api.ErrRange},
	} {
		if n, ok, e := Reaches(sample(), x.cycle, x.v, x.w); n != x.n || ok != x.ok || e != x.e {
			t.Errorf("Reaches(%v, %v, %v) gives %d, %v, %d", x.cycle, x.v, x.w, n, ok, e)
		}
	}
}

// TestSet checks P30.2: linear sets.
func TestSet(t *testing.T) {
	five := parse("model counter\nstates a\nplaces v w x y z\nrule r a -> a give v 1\nstart 0(0 0 0 0 0 0)")
	for _, x := range []struct {
		m        api.Model
		cycle, v []int
		want     string
		e        api.Errno
	}{
		{sample(), []int{1}, []int{3, 0}, "{[3 0] [[0 2]]}", api.OK}, {sample(), []int{4}, []int{16, 0}, "{[16 0] []}", api.OK}, {sample(), []int{0}, []int{9, 0}, "", api.ErrBlocked}, {sample(), []int{1}, []int{17, 0}, "", api.ErrRange},
		{sample(), slices.Repeat([]int{1}, 9), []int{0, 0}, "", api.ErrRange}, {sample(), []int{1}, []int{-1}, "", api.ErrRange}, {sample(), []int{1}, []int{1}, "", api.ErrLength}, {five, []int{0}, make([]int, 5), "", api.ErrRange},
	} {
		s, e := Set(x.m, x.cycle, x.v)
		if e != x.e || e == api.OK && fmt.Sprint(s) != x.want || e != api.OK && s.Base != nil {
			t.Errorf("Set(%v, %v) gives %v, %d", x.cycle, x.v, s, e)
		}
	}
}

// TestCycles checks P30.3.
func TestCycles(t *testing.T) {
	for _, x := range []struct {
		state, most int
		want        string
		e           api.Errno
	}{
		{0, 0, "[]", api.OK}, {0, 1, "[[0] [1]]", api.OK}, {0, 2, "[[0] [1] [0 0] [0 1] [1 0] [1 1] [2 3]]", api.OK}, {1, 2, "[[4] [3 2] [4 4]]", api.OK}, {2, 1, "[]", api.ErrRange}, {-1, 1, "[]", api.ErrRange}, {0, 5, "[]", api.ErrRange}, {0, -1, "[]", api.ErrRange},
	} {
		if l, e := Cycles(sample(), x.state, x.most); e != x.e || fmt.Sprint(l) != x.want {
			t.Errorf("Cycles(%d, %d) gives %v, %d", x.state, x.most, l, e)
		}
	}
	four := "model counter\nstates a\nplaces x\nrule r1 a -> a\nrule r2 a -> a\nrule r3 a -> a\nrule r4 a -> a\nstart 0(0 0)"
	if l, e := Cycles(parse(four), 0, 3); e != api.OK || len(l) != 84 {
		t.Errorf("Cycles gives %d, %d", len(l), e)
	}
	if l, e := Cycles(parse(four), 0, 4); e != api.ErrLimit || l != nil {
		t.Errorf("Cycles gives %d, %d", len(l), e)
	}
}

// TestAgainstRules checks P30.2 and the consequences: rules, one after the other, do the same.
func TestAgainstRules(t *testing.T) {
	r := rand.New(rand.NewSource(15))
	m := sample()
	cycles, _ := Cycles(m, 0, 3)
	more, _ := Cycles(m, 1, 3)
	cycles = append(cycles, more...)
	for range 500 {
		cycle := cycles[r.Intn(len(cycles))]
		v := []int{r.Intn(6), r.Intn(6)}
		state, _ := Check(m, cycle)
		at, n := values.Counter(state, v), 0
		most, bounded, _ := Times(m, cycle, v)
		for ; n < 12; n++ {
			w, e := After(m, cycle, v, n)
			if e != api.OK || !slices.Equal(w, values.Numbers(at.Kids[1:])) {
				t.Fatalf("After(%v, %v, %d) gives %v, %d and not %v", cycle, v, n, w, e, at)
			}
			if k, ok, _ := Reaches(m, cycle, v, w); !ok || k > n {
				t.Fatalf("Reaches(%v, %v, %v) gives %d, %v", cycle, v, w, k, ok)
			}
			if s, e := Set(m, cycle, v); !bounded && (e != api.OK || slices.Max(w) < 60 && !semilinear.Has(2, []api.Linear{s}, w)) {
				t.Fatalf("Set(%v, %v) gives %v, %d", cycle, v, s, e)
			}
			e = api.OK
			for _, rule := range cycle {
				if e == api.OK {
					at, e = counter.Apply(m, rule, at)
				}
			}
			if e != api.OK {
				break
			}
		}
		if bounded && n != most || !bounded && n != 12 {
			t.Fatalf("Times(%v, %v) gives %d, %v, but it is %d", cycle, v, most, bounded, n)
		}
	}
}

// TestMost checks P30.2: a set of four dimensions.
func TestMost(t *testing.T) {
	four := parse("model counter\nstates a\nplaces w x y z\nrule r a -> a give z 16\nstart 0(0 0 0 0 0)")
	if s, e := Set(four, []int{0}, []int{16, 0, 0, 16}); e != api.OK || fmt.Sprint(s) != "{[16 0 0 16] [[0 0 0 16]]}" {
		t.Errorf("Set gives %v, %d", s, e)
	}
}

// TestMostCycles checks P30.3: just as many cycles as there may be, and more.
func TestMostCycles(t *testing.T) {
	text := "model counter\nstates a b\nplaces x\nrule stay a -> a\nrule go a -> b\nrule back1 b -> a\nrule back2 b -> a\n"
	for i := range 6 {
		text += fmt.Sprintf("rule idle%d b -> b\n", i)
	}
	m := parse(text + "start 0(0 0)")
	if l, e := Cycles(m, 0, 4); e != api.OK || len(l) != 128 {
		t.Errorf("Cycles gives %d, %d", len(l), e)
	}
	if l, e := Cycles(parse(text+"rule more a -> a\nstart 0(0 0)"), 0, 4); e != api.ErrLimit || l != nil {
		t.Errorf("Cycles gives %d, %d", len(l), e)
	}
}
