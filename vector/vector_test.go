package vector

import (
	"slices"
	"testing"

	"coverability/api"
)

const (
	w    = api.Omega
	most = api.MaxNumber
)

// TestValid checks P1.1: which vectors are valid, and which are finite.
func TestValid(t *testing.T) {
	for _, x := range []struct {
		v             []int
		valid, finite bool
	}{
		{nil, true, true}, {[]int{}, true, true}, {[]int{0, most}, true, true}, {[]int{w}, true, false},
		{[]int{-1}, false, false}, {[]int{most + 1}, false, false}, {[]int{w + 1}, false, false}, {[]int{w - 1}, false, false},
		{make([]int, 6), true, true}, {make([]int, 7), false, false}, {[]int{-1 << 63}, false, false},
	} {
		if Valid(x.v) != x.valid || Finite(x.v) != x.finite {
			t.Errorf("%v: Valid %v, Finite %v", x.v, Valid(x.v), Finite(x.v))
		}
	}
}

// TestOrders checks P1.1: Leq and Compare.
func TestOrders(t *testing.T) {
	for _, x := range []struct {
		a, b []int
		leq  bool
		c    int
	}{
		{nil, []int{}, true, 0}, {[]int{1, 2}, []int{1, 2}, true, 0}, {[]int{1, 2}, []int{2, 2}, true, -1},
		{[]int{2, 1}, []int{1, 2}, false, 1}, {[]int{w}, []int{w}, true, 0}, {[]int{w}, []int{most}, false, 1},
		{[]int{9}, []int{1, 1}, false, -1}, {[]int{-1}, []int{0}, false, -1}, {[]int{0}, []int{w + 1}, false, -1},
		{make([]int, 7), make([]int, 7), false, 0}, {[]int{1, 3}, []int{1, 2}, false, 1},
	} {
		if Leq(x.a, x.b) != x.leq || Compare(x.a, x.b) != x.c || Compare(x.b, x.a) != -x.c {
			t.Errorf("%v, %v: Leq %v, Compare %d", x.a, x.b, Leq(x.a, x.b), Compare(x.a, x.b))
		}
	}
}

// TestSums checks P1.2: results and the order of errors.
func TestSums(t *testing.T) {
	type op func(a, b []int) ([]int, api.Errno)
	for _, x := range []struct {
		name      string
		f         op
		a, b, out []int
		e         api.Errno
	}{
		{"Add", Add, []int{1, w, 3}, []int{2, 5, w}, []int{3, w, w}, api.OK},
		{"Add", Add, []int{most}, []int{1}, nil, api.ErrLimit},
		{"Add", Add, []int{most}, []int{0}, []int{most}, api.OK},
		{"Add", Add, []int{-1}, []int{0, 0}, nil, api.ErrRange},
		{"Add", Add, []int{0}, []int{0, w + 1}, nil, api.ErrRange},
		{"Add", Add, []int{most}, []int{1, 1}, nil, api.ErrLength},
		{"Add", Add, nil, nil, nil, api.OK},
		{"Sub", Sub, []int{1, w}, []int{1, 7}, []int{0, w}, api.OK},
		{"Sub", Sub, []int{1}, []int{2}, nil, api.ErrNone},
		{"Sub", Sub, []int{1}, []int{w}, nil, api.ErrRange},
		{"Sub", Sub, []int{1}, []int{2, 2}, nil, api.ErrLength},
		{"Sub", Sub, []int{-1}, []int{2, 2}, nil, api.ErrRange},
		{"Max", Max, []int{1, 5, w}, []int{3, 2, 1}, []int{3, 5, w}, api.OK},
		{"Max", Max, []int{1}, []int{1, 2}, nil, api.ErrLength},
		{"Max", Max, []int{1}, []int{-1, 2}, nil, api.ErrRange},
		{"Min", Min, []int{1, 5, w}, []int{3, 2, 1}, []int{1, 2, 1}, api.OK},
		{"Min", Min, []int{1}, []int{1, 2}, nil, api.ErrLength},
		{"Min", Min, make([]int, 7), make([]int, 7), nil, api.ErrRange},
	} {
		if v, e := x.f(x.a, x.b); e != x.e || !slices.Equal(v, x.out) {
			t.Errorf("%s(%v, %v) gives %v, %d", x.name, x.a, x.b, v, e)
		}
	}
}

// TestResultsAreNew checks R2: results share no memory with arguments.
func TestResultsAreNew(t *testing.T) {
	a, b := []int{3, 4}, []int{1, 1}
	for _, f := range []func(a, b []int) ([]int, api.Errno){Add, Sub, Max, Min} {
		v, _ := f(a, b)
		v[0] = 99
	}
	if a[0] != 3 || b[0] != 1 {
		t.Error("a result shares memory with an argument")
	}
}

// TestLaws checks the consequences: bounds, and that Sub undoes Add.
func TestLaws(t *testing.T) {
	all := []int{0, 1, 5, w}
	for _, p := range all {
		for _, q := range all {
			for _, r := range all {
				a, b := []int{p, q}, []int{q, r}
				hi, _ := Max(a, b)
				lo, _ := Min(a, b)
				if !Leq(a, hi) || !Leq(b, hi) || !Leq(lo, a) || !Leq(lo, b) {
					t.Errorf("bounds of %v and %v are %v and %v", a, b, lo, hi)
				}
				if sum, e := Add(a, b); e == api.OK && Finite(a) && Finite(b) {
					if back, e := Sub(sum, b); e != api.OK || Compare(back, a) != 0 {
						t.Errorf("Sub of %v and %v gives %v, %d", sum, b, back, e)
					}
				}
			}
		}
	}
}
