package semilinear

import (
	"fmt"
	"math/rand"
	"slices"
	"testing"

	"coverability/api"
)

func set(base []int, periods ...[]int) api.Linear { return api.Linear{Base: base, Periods: periods} }

func same(a, b any) bool { return fmt.Sprint(a) == fmt.Sprint(b) }

// TestCheck checks P13.1: the errors of sets, in order.
func TestCheck(t *testing.T) {
	one, two := set([]int{1, 0}, []int{1, 1}, []int{2, 0}), set([]int{9})
	for _, x := range []struct {
		n int
		l []api.Linear
		e api.Errno
	}{
		{0, make([]api.Linear, 9), api.ErrRange}, {5, nil, api.ErrRange}, {4, nil, api.OK}, {2, make([]api.Linear, 9), api.ErrLimit}, {2, []api.Linear{one, two}, api.ErrLength},
		{2, []api.Linear{set([]int{17, 0}, []int{1})}, api.ErrLength}, {2, []api.Linear{set([]int{17, 0})}, api.ErrRange}, {1, []api.Linear{set([]int{-1})}, api.ErrRange},
		{2, []api.Linear{set([]int{0, 0}, []int{0, 0}), two}, api.ErrRange}, {1, []api.Linear{set([]int{0}, []int{17})}, api.ErrRange},
		{1, []api.Linear{set([]int{0}, []int{4}, []int{3}, []int{2}, []int{1})}, api.ErrLimit}, {1, []api.Linear{set([]int{0}, []int{4}, []int{3}, []int{2}, []int{0})}, api.ErrRange},
		{2, []api.Linear{set([]int{0, 0}, []int{1, 1}, []int{1, 1})}, api.ErrOrder}, {2, []api.Linear{set([]int{0, 0}, []int{1, 1}, []int{0, 2})}, api.ErrOrder}, {2, []api.Linear{one, one}, api.OK},
	} {
		if e := Check(x.n, x.l); e != x.e {
			t.Errorf("Check(%d, %v) gives %d", x.n, x.l, e)
		}
		if x.e != api.OK && Has(x.n, x.l, make([]int, max(0, x.n))) {
			t.Errorf("Has accepts %v", x.l)
		}
	}
}

// TestTimes checks P13.1: multiples, and what proves them.
func TestTimes(t *testing.T) {
	s := set([]int{1, 0}, []int{1, 1}, []int{2, 0})
	for _, x := range []struct {
		s     api.Linear
		v     []int
		times []int
		ok    bool
	}{
		{s, []int{4, 1}, []int{1, 1}, true}, {s, []int{1, 0}, []int{0, 0}, true}, {s, []int{0, 0}, nil, false}, {s, []int{1, 1}, nil, false}, {s, []int{4}, nil, false}, {s, []int{64, 63}, []int{63, 0}, true},
		{s, []int{65, 64}, nil, false}, {s, []int{-1, 0}, nil, false}, {set([]int{0}, []int{1}, []int{2}, []int{3}), []int{4}, []int{0, 2, 0}, true}, {set([]int{0}, []int{2}, []int{3}), []int{13}, []int{2, 3}, true},
		{set([]int{3}), []int{3}, nil, true}, {set(nil), nil, nil, false}, {set([]int{0, 0}, []int{2, 0}, []int{1, 0}), []int{4, 0}, nil, false},
	} {
		m, ok := Times(x.s, x.v)
		if ok != x.ok || !slices.Equal(m, x.times) || ok && !Proves(x.s, x.v, m) || Has(len(x.s.Base), []api.Linear{x.s}, x.v) != ok {
			t.Errorf("Times(%v, %v) gives %v, %v", x.s, x.v, m, ok)
		}
	}
	if !Has(1, []api.Linear{set([]int{5}), set([]int{0}, []int{2})}, []int{4}) || Has(1, []api.Linear{set([]int{5}), set([]int{0}, []int{2})}, []int{3}) || Has(1, nil, []int{0}) {
		t.Error("Has of a union is wrong")
	}
	if !Proves(s, []int{api.MaxNumber + 1, api.MaxNumber}, []int{api.MaxNumber, 0}) || Proves(s, []int{0, 0}, []int{-1, 0}) || Proves(s, []int{4, 1}, []int{1}) || Proves(s, []int{4, 2}, []int{1, 1}) ||
		Proves(set([]int{0}, []int{1}), []int{api.MaxNumber + 1}, []int{api.MaxNumber + 1}) || Proves(set(nil), nil, nil) || Proves(s, []int{4}, []int{1, 1}) {
		t.Error("Proves is wrong")
	}
}

// TestSum checks P13.2 by hand, and errors.
func TestSum(t *testing.T) {
	a, b := set([]int{1, 2}, []int{1, 1}), set([]int{3, 4}, []int{0, 1}, []int{1, 1})
	if s, e := Sum(2, a, b); e != api.OK || !same(s, set([]int{4, 6}, []int{0, 1}, []int{1, 1})) {
		t.Errorf("Sum gives %v, %d", s, e)
	}
	if s, e := Shift(2, a, []int{0, 14}); e != api.OK || !same(s, set([]int{1, 16}, []int{1, 1})) {
		t.Errorf("Shift gives %v, %d", s, e)
	}
	for _, x := range []struct {
		a, b api.Linear
		e    api.Errno
	}{
		{set([]int{1}), set([]int{17, 0}), api.ErrLength}, {a, set([]int{17, 0}), api.ErrRange}, {a, set([]int{0, 15}), api.ErrLimit},
		{set([]int{0, 0}, []int{1, 0}, []int{2, 0}), set([]int{0, 0}, []int{3, 0}, []int{4, 0}), api.ErrLimit},
	} {
		if s, e := Sum(2, x.a, x.b); e != x.e || s.Base != nil || s.Periods != nil {
			t.Errorf("Sum(%v, %v) gives %v, %d", x.a, x.b, s, e)
		}
	}
	for _, x := range []struct {
		by []int
		e  api.Errno
	}{{[]int{17}, api.ErrLength}, {[]int{17, 0}, api.ErrRange}, {[]int{-1, 0}, api.ErrRange}, {[]int{16, 0}, api.ErrLimit}} {
		if s, e := Shift(2, a, x.by); e != x.e || s.Base != nil {
			t.Errorf("Shift by %v gives %v, %d", x.by, s, e)
		}
	}
	if _, e := Shift(2, set(nil), nil); e != api.ErrLength {
		t.Errorf("Shift gives %d", e)
	}
	if Within(0, a, b) || Within(2, a, set(nil)) || Within(2, set(nil), a) || !Within(2, a, a) || Within(2, a, b) || !Within(2, set([]int{4, 6}, []int{1, 2}), b) {
		t.Error("Within is wrong")
	}
}

// TestLaws checks P13.2 and the consequences for random sets.
func TestLaws(t *testing.T) {
	r := rand.New(rand.NewSource(11))
	random := func() api.Linear {
		s := set([]int{r.Intn(3), r.Intn(3)})
		for range r.Intn(3) {
			if p := []int{r.Intn(3), r.Intn(3)}; p[0]+p[1] > 0 {
				s.Periods = append(s.Periods, p)
			}
		}
		slices.SortFunc(s.Periods, slices.Compare)
		s.Periods = slices.CompactFunc(s.Periods, slices.Equal)
		return s
	}
	for range 500 {
		a, b := random(), random()
		within, sum := true, map[[2]int]bool{}
		var inA, inB [][]int
		for x := range 12 {
			for y := range 12 {
				v := []int{x, y}
				if Has(2, []api.Linear{a}, v) {
					inA = append(inA, v)
					within = within && Has(2, []api.Linear{b}, v)
				}
				if Has(2, []api.Linear{b}, v) {
					inB = append(inB, v)
				}
			}
		}
		if Within(2, a, b) && !within {
			t.Fatalf("Within(%v, %v) is wrong", a, b)
		}
		for _, v := range inA {
			for _, w := range inB {
				sum[[2]int{v[0] + w[0], v[1] + w[1]}] = true
			}
		}
		s, e := Sum(2, a, b)
		for x := range 12 {
			for y := range 12 {
				if e == api.OK && Has(2, []api.Linear{s}, []int{x, y}) != sum[[2]int{x, y}] {
					t.Fatalf("Sum(%v, %v) gives %v: %d, %d is wrong", a, b, s, x, y)
				}
			}
		}
	}
}

// TestMost checks P13.1 and P13.2: as many sets and periods as there may be.
func TestMost(t *testing.T) {
	if e := Check(1, slices.Repeat([]api.Linear{set([]int{16})}, 8)); e != api.OK {
		t.Errorf("Check gives %d", e)
	}
	a, b := set([]int{8}, []int{1}, []int{2}), set([]int{8}, []int{2}, []int{16})
	if s, e := Sum(1, a, b); e != api.OK || !same(s, set([]int{16}, []int{1}, []int{2}, []int{16})) {
		t.Errorf("Sum gives %v, %d", s, e)
	}
}
