package limit

import (
	"fmt"
	"math/rand"
	"slices"
	"testing"

	"coverability/api"
	"coverability/vector"
)

const w = api.Omega

type list = [][]int

func same(a, b list) bool { return slices.EqualFunc(a, b, slices.Equal) }

// chain returns n vectors that are limits.
func chain(n int) list {
	var out list
	for i := range n {
		out = append(out, []int{i, 1000 - i})
	}
	return out
}

// TestCheck checks P8.1: the errors of limits, in order, and those of Maximise.
func TestCheck(t *testing.T) {
	for _, x := range []struct {
		n    int
		l    list
		e, m api.Errno
	}{
		{0, nil, api.ErrRange, api.ErrRange}, {7, nil, api.ErrRange, api.ErrRange}, {6, nil, api.OK, api.OK}, {2, list{{1, w}, {w, 0}}, api.OK, api.OK},
		{2, chain(256), api.OK, api.OK}, {2, chain(257), api.ErrLimit, api.ErrLimit}, {2, append(chain(257), []int{1}), api.ErrLimit, api.ErrLength},
		{2, list{{1, 1, 1}, {w + 1}}, api.ErrLength, api.ErrLength}, {2, list{{w + 1, 0}}, api.ErrRange, api.ErrRange}, {2, list{{-1, 0}, {1}}, api.ErrRange, api.ErrRange},
		{2, list{{2, 1}, {1, 2}}, api.ErrOrder, api.OK}, {2, list{{2, 1}, {2, 1}}, api.ErrOrder, api.OK}, {2, list{{2, 1}, {1, 2}, {1}}, api.ErrOrder, api.ErrLength},
		{2, list{{1, 2}, {1, w}}, api.ErrBasis, api.OK},
	} {
		if e := Check(x.n, x.l); e != x.e {
			t.Errorf("Check(%d, %v) gives %d", x.n, x.l, e)
		}
		if _, e := Maximise(x.n, x.l); e != x.m {
			t.Errorf("Maximise(%d, %v) gives %d", x.n, x.l, e)
		}
	}
	if m, e := Maximise(2, list{{1, 2}, {2, 1}, {1, w}, {2, 1}, {0, w}}); e != api.OK || !same(m, list{{1, w}, {2, 1}}) {
		t.Errorf("Maximise gives %v, %d", m, e)
	}
}

// TestHas checks P8.1: Has and Subset.
func TestHas(t *testing.T) {
	l := list{{1, w}, {3, 1}}
	if !Has(2, l, []int{1, 99}) || !Has(2, l, []int{3, 0}) || Has(2, l, []int{2, 2}) || Has(2, l, []int{1, w}) || Has(2, l, []int{1}) || Has(2, list{{3, 1}, {1, w}}, []int{0, 0}) || Has(2, l, []int{-1, 0}) {
		t.Error("Has is wrong")
	}
	if !Subset(2, list{{1, 7}, {2, 0}}, l) || Subset(2, l, list{{1, 7}}) || !Subset(2, nil, nil) || Subset(0, nil, nil) || Subset(2, list{{w + 1, 0}}, l) {
		t.Error("Subset is wrong")
	}
}

// TestErrorsOfSets checks the errors of P8.2 and P8.3.
func TestErrorsOfSets(t *testing.T) {
	bad := list{{2, 1}, {1, 2}}
	for _, f := range []func(n int, a, b [][]int) ([][]int, api.Errno){Union, Intersect} {
		if l, e := f(2, list{{1}}, bad); e != api.ErrLength || l != nil {
			t.Errorf("a first: %v, %d", l, e)
		}
		if l, e := f(2, nil, bad); e != api.ErrOrder || l != nil {
			t.Errorf("then b: %v, %d", l, e)
		}
	}
	if _, e := Union(2, chain(256), list{{256, 0}}); e != api.ErrLimit {
		t.Errorf("Union of many gives %d", e)
	}
	many := func(k int) (l list) {
		for i := range k {
			l = append(l, []int{i, 16 - i})
		}
		return l
	}
	var a, b list
	for _, v := range many(17) {
		a = append(a, []int{v[0], v[1], w, w})
		b = append(b, []int{w, w, v[0], v[1]})
	}
	if _, e := Intersect(4, a, b); e != api.ErrLimit {
		t.Errorf("Intersect of many gives %d", e)
	}
	var wide, high list
	for i := range 256 {
		wide = append(wide, []int{i, 255 - i, w, w})
		high = append(high, []int{w, w, i, 255 - i})
	}
	if _, e := Intersect(4, wide, high); e != api.ErrLimit {
		t.Errorf("Intersect of very many gives %d", e)
	}
	for _, x := range []struct {
		n            int
		l            list
		below, above api.Errno
	}{
		{0, nil, api.ErrRange, api.ErrRange}, {5, nil, api.ErrRange, api.ErrRange}, {2, make(list, 13), api.ErrLimit, api.ErrLimit}, {2, list{{1}}, api.ErrLength, api.ErrLength},
		{2, list{{1, w}}, api.ErrRange, api.OK}, {2, list{{1, w + 1}, {1}}, api.ErrRange, api.ErrRange}, {1, list{{api.MaxNumber}}, api.OK, api.ErrLimit},
		{2, list{{api.MaxNumber, 0}, {w, 3}}, api.ErrRange, api.OK},
	} {
		if l, e := Below(x.n, x.l); e != x.below || e != api.OK && l != nil {
			t.Errorf("Below(%d, %v) gives %v, %d", x.n, x.l, l, e)
		}
		if l, e := Above(x.n, x.l); e != x.above || e != api.OK && l != nil {
			t.Errorf("Above(%d, %v) gives %v, %d", x.n, x.l, l, e)
		}
	}
}

// TestExamples checks P8.3 by hand.
func TestExamples(t *testing.T) {
	for _, x := range []struct{ up, down list }{
		{list{{2, 1}}, list{{1, w}, {w, 0}}}, {nil, list{{w, w}}}, {list{{0, 0}}, nil}, {list{{1, 3}, {2, 1}}, list{{0, w}, {1, 2}, {w, 0}}},
	} {
		if l, e := Below(2, x.up); e != api.OK || !same(l, x.down) {
			t.Errorf("Below(%v) gives %v, %d", x.up, l, e)
		}
		if l, e := Above(2, x.down); e != api.OK || !same(l, x.up) {
			t.Errorf("Above(%v) gives %v, %d", x.down, l, e)
		}
	}
	if l, e := Below(2, list{{2, 2}, {2, 1}, {2, 1}}); e != api.OK || !same(l, list{{1, w}, {w, 0}}) {
		t.Errorf("Below of what is not minimal gives %v, %d", l, e)
	}
}

// cube returns all vectors with elements below k.
func cube(n, k int) list {
	out := list{nil}
	for range n {
		var next list
		for _, v := range out {
			for x := range k {
				next = append(next, append(slices.Clone(v), x))
			}
		}
		out = next
	}
	return out
}

// TestSets checks P8.2, P8.3 and the consequences, against all small vectors.
func TestSets(t *testing.T) {
	r := rand.New(rand.NewSource(3))
	for range 400 {
		n := 1 + r.Intn(3)
		some := func(omega bool) (l list) {
			for range r.Intn(5) {
				v := make([]int, n)
				for i := range v {
					if v[i] = r.Intn(4); omega && r.Intn(4) == 0 {
						v[i] = w
					}
				}
				l = append(l, v)
			}
			return l
		}
		a, _ := Maximise(n, some(true))
		b, _ := Maximise(n, some(true))
		u, e1 := Union(n, a, b)
		m, e2 := Intersect(n, a, b)
		up := some(false)
		down, e3 := Below(n, up)
		back, e4 := Above(n, down)
		again, e5 := Below(n, back)
		for i, e := range []api.Errno{e1, e2, e3, e4, e5, Check(n, u), Check(n, m), Check(n, down)} {
			if e != api.OK {
				t.Fatalf("%d: error %d for %v, %v, %v", i, e, a, b, up)
			}
		}
		if !same(again, down) {
			t.Errorf("Below of Above of %v gives %v", down, again)
		}
		for _, v := range cube(n, 6) {
			if Has(n, u, v) != (Has(n, a, v) || Has(n, b, v)) || Has(n, m, v) != (Has(n, a, v) && Has(n, b, v)) {
				t.Errorf("%v is wrong in the union or intersection of %v and %v", v, a, b)
			}
			above := slices.ContainsFunc(up, func(x []int) bool { return vector.Leq(x, v) })
			aboveBack := slices.ContainsFunc(back, func(x []int) bool { return vector.Leq(x, v) })
			if Has(n, down, v) == above || above != aboveBack {
				t.Errorf("%v is wrong in Below of %v: %v", v, up, down)
			}
		}
	}
}

// TestLargeComplement checks P8.3 for as many vectors, and dimensions, as there can be.
func TestLargeComplement(t *testing.T) {
	var up list
	for i := range 12 {
		up = append(up, []int{i, 11 - i, (i * 5) % 12, (i * 7) % 12})
	}
	l, e := Below(4, up)
	if e != api.OK || Check(4, l) != api.OK {
		t.Fatalf("Below gives %d vectors, %d", len(l), e)
	}
	if fmt.Sprint(len(l)) == "0" {
		t.Error("Below is empty")
	}
}

// TestOneDimension checks P8.1 to P8.3 in the least dimension.
func TestOneDimension(t *testing.T) {
	if m, e := Maximise(1, list{{3}, {5}}); e != api.OK || !same(m, list{{5}}) {
		t.Errorf("Maximise gives %v, %d", m, e)
	}
	if l, e := Below(1, list{{3}}); e != api.OK || !same(l, list{{2}}) {
		t.Errorf("Below gives %v, %d", l, e)
	}
	if l, e := Above(1, list{{2}}); e != api.OK || !same(l, list{{3}}) {
		t.Errorf("Above gives %v, %d", l, e)
	}
}
