package hilbert

import (
	"fmt"
	"math/rand"
	"slices"
	"testing"

	"coverability/api"
	"coverability/vector"
)

func same(a, b any) bool { return fmt.Sprint(a) == fmt.Sprint(b) }

type rows = [][]int

func zeros(n, m int) rows {
	out := make(rows, n)
	for i := range out {
		out[i] = make([]int, m)
	}
	return out
}

// TestErrors checks the errors of P12.1 and P12.2, in order.
func TestErrors(t *testing.T) {
	const big = api.MaxNumber + 1
	for _, x := range []struct {
		a rows
		b []int
		e api.Errno
	}{
		{nil, nil, api.ErrShape}, {zeros(7, 1), make([]int, 7), api.ErrShape}, {zeros(1, 7), []int{0}, api.ErrShape}, {zeros(6, 6), make([]int, 6), api.OK}, {rows{{17}}, nil, api.ErrShape},
		{rows{{1}}, []int{big, 0}, api.ErrLength}, {rows{{1}}, []int{big}, api.ErrRange}, {rows{{1}}, []int{-big}, api.ErrRange}, {rows{{1}}, []int{1 - big}, api.OK},
	} {
		m, e := Minimal(x.a, x.b, 0)
		if Check(x.a, x.b) != x.e || e != x.e || x.e != api.OK && m != nil {
			t.Errorf("%v, %v: Check %d, Minimal %v, %d", x.a, x.b, Check(x.a, x.b), m, e)
		}
	}
	for _, most := range []int{-1, 11} {
		if _, e := Minimal(rows{{1}}, []int{0}, most); e != api.ErrRange {
			t.Errorf("Minimal with %d gives %d", most, e)
		}
		if _, e := Free(rows{{1}}, most); e != api.ErrRange {
			t.Errorf("Free with %d gives %d", most, e)
		}
		if _, e := Free(rows{{17}}, most); e != api.ErrShape {
			t.Errorf("Free gives %d", e)
		}
	}
	for _, x := range []struct {
		a rows
		x []int
		e api.Errno
	}{
		{rows{{17}}, []int{1}, api.ErrShape}, {rows{{1, -2}}, []int{-1}, api.ErrLength}, {rows{{1, -2}}, []int{-1, 3}, api.ErrRange}, {rows{{1, -2}}, []int{8, 4}, api.ErrRange},
		{rows{{1, -2}}, []int{1 << 62, 1 << 62}, api.ErrRange}, {rows{{1, -2}}, []int{3, 1}, api.ErrNone},
	} {
		if s, e := Split(x.a, x.x); e != x.e || s != nil {
			t.Errorf("Split(%v, %v) gives %v, %d", x.a, x.x, s, e)
		}
	}
}

// TestSolves checks P12.1: what is a solution.
func TestSolves(t *testing.T) {
	a := rows{{1, -2}}
	for _, x := range []struct {
		b, x []int
		ok   bool
	}{{[]int{0}, []int{2, 1}, true}, {[]int{0}, []int{1, 1}, false}, {[]int{3}, []int{3, 0}, true}, {[]int{0}, []int{-2, -1}, false}, {[]int{0}, []int{2}, false},
		{[]int{0}, []int{api.MaxNumber, api.MaxNumber / 2}, true}, {[]int{0}, []int{2 * api.MaxNumber, api.MaxNumber}, false}, {[]int{0, 0}, []int{2, 1}, false}, {[]int{0}, nil, false}} {
		if Solves(a, x.b, x.x) != x.ok {
			t.Errorf("Solves(%v, %v) is not %v", x.b, x.x, x.ok)
		}
	}
}

// TestExamples checks P12.1 and P12.2 by hand.
func TestExamples(t *testing.T) {
	a := rows{{1, -2}}
	if f, e := Free(a, 10); e != api.OK || !same(f, rows{{2, 1}}) {
		t.Errorf("Free gives %v, %d", f, e)
	}
	if f, e := Free(a, 2); e != api.OK || len(f) != 0 {
		t.Errorf("Free with a small sum gives %v, %d", f, e)
	}
	if m, e := Minimal(a, []int{0}, 10); e != api.OK || !same(m, rows{{0, 0}}) {
		t.Errorf("Minimal of the homogeneous system gives %v, %d", m, e)
	}
	if m, e := Minimal(a, []int{-1}, 10); e != api.OK || !same(m, rows{{1, 1}}) {
		t.Errorf("Minimal gives %v, %d", m, e)
	}
	if m, e := Minimal(a, []int{11}, 10); e != api.OK || len(m) != 0 {
		t.Errorf("Minimal with a greater sum gives %v, %d", m, e)
	}
	if s, e := Split(a, []int{4, 2}); e != api.OK || !same(s, rows{{2, 1}, {2, 1}}) {
		t.Errorf("Split gives %v, %d", s, e)
	}
	if s, e := Split(a, []int{0, 0}); e != api.OK || len(s) != 0 {
		t.Errorf("Split of zero gives %v, %d", s, e)
	}
	// The least part, (0, 1, 1), is taken first; then the rest has two parts.
	if s, e := Split(rows{{1, 1, -1}}, []int{1, 1, 2}); e != api.OK || !same(s, rows{{0, 1, 1}, {1, 0, 1}}) {
		t.Errorf("Split gives %v, %d", s, e)
	}
	// (0, 0, 1, 1) is the least part, but not every first part leaves a rest that can be written by greater ones.
	if s, e := Split(rows{{1, 1, -1, -1}}, []int{1, 1, 1, 1}); e != api.OK || !same(s, rows{{0, 1, 0, 1}, {1, 0, 1, 0}}) {
		t.Errorf("Split gives %v, %d", s, e)
	}
}

// TestAgainstSearch checks P12.1, P12.2 and the consequences for small systems.
func TestAgainstSearch(t *testing.T) {
	r := rand.New(rand.NewSource(7))
	for range 300 {
		n, m := 1+r.Intn(2), 1+r.Intn(4)
		a := zeros(n, m)
		b := make([]int, n)
		for i := range a {
			b[i] = r.Intn(5) - 2
			for j := range a[i] {
				a[i][j] = r.Intn(7) - 3
			}
		}
		most := r.Intn(8)
		var all, zero rows
		var walk func(x []int, sum int)
		walk = func(x []int, sum int) {
			if len(x) == m {
				if Solves(a, b, x) {
					all = append(all, slices.Clone(x))
				}
				if Solves(a, make([]int, n), x) && slices.Max(x) > 0 {
					zero = append(zero, slices.Clone(x))
				}
				return
			}
			for k := 0; k+sum <= most; k++ {
				walk(append(slices.Clone(x), k), sum+k)
			}
		}
		walk(nil, 0)
		got, e1 := Minimal(a, b, most)
		free, e2 := Free(a, most)
		if e1 != api.OK || e2 != api.OK || !same(got, least(all)) || !same(free, least(zero)) {
			t.Fatalf("%v, %v, %d: Minimal %v, Free %v", a, b, most, got, free)
		}
		for _, x := range zero {
			s, e := Split(a, x)
			sum := make([]int, m)
			for i, p := range s {
				sum, _ = vector.Add(sum, p)
				if i > 0 && vector.Compare(s[i-1], p) > 0 {
					t.Fatalf("Split(%v, %v) gives %v", a, x, s)
				}
			}
			if e != api.OK || !slices.Equal(sum, x) {
				t.Fatalf("Split(%v, %v) gives %v, %d", a, x, s, e)
			}
		}
	}
}

func least(l rows) rows {
	var out rows
	for _, x := range l {
		if !slices.ContainsFunc(l, func(y []int) bool { return vector.Leq(y, x) && !slices.Equal(x, y) }) {
			out = append(out, x)
		}
	}
	slices.SortFunc(out, vector.Compare)
	return out
}

// TestLargest checks P12.2 for the most unknowns and the greatest sum.
func TestLargest(t *testing.T) {
	if s, e := Split(zeros(1, 6), []int{2, 2, 2, 2, 1, 1}); e != api.OK || len(s) != 10 || s[0][5] != 1 || s[9][0] != 1 {
		t.Errorf("Split gives %v, %d", s, e)
	}
	if f, e := Free(rows{{1, 1, 1, -1, -1, -1}}, 10); e != api.OK || len(f) != 9 {
		t.Errorf("Free gives %v, %d", f, e)
	}
	if s, e := Split(rows{{1, 2, 3, -1, -2, -3}}, []int{1, 1, 2, 2, 2, 1}); e != api.OK || len(s) == 0 {
		t.Errorf("Split gives %v, %d", s, e)
	}
}

// TestMost checks P12.1 and P12.2: numbers at their limits.
func TestMost(t *testing.T) {
	if Check(rows{{1}}, []int{api.MaxNumber}) != api.OK || Check(rows{{1}}, []int{-api.MaxNumber}) != api.OK {
		t.Error("Check is wrong")
	}
	if s, e := Split(rows{{0, 1}}, []int{10, 0}); e != api.OK || len(s) != 10 {
		t.Errorf("Split gives %v, %d", s, e)
	}
	if s, e := Split(rows{{0, 1}}, []int{11, 0}); e != api.ErrRange || s != nil {
		t.Errorf("Split gives %v, %d", s, e)
	}
}
