package semiflow

import (
	"fmt"
	"math/rand"
	"slices"
	"testing"

	"coverability/api"
)

func same(a, b any) bool { return fmt.Sprint(a) == fmt.Sprint(b) }

// move has a rule that moves a token, and then a rule that moves two tokens into one.
var move = [][]int{{-1, 0}, {1, -2}, {0, 1}}

// TestOf checks P11.1 by hand, and the errors of all functions.
func TestOf(t *testing.T) {
	for _, x := range []struct{ c, flows [][]int }{
		{[][]int{{-1}, {1}}, [][]int{{1, 1}}}, {move, [][]int{{1, 1, 2}}}, {[][]int{{1}}, nil}, {[][]int{{0}}, [][]int{{1}}},
		{[][]int{{0}, {0}, {1}}, [][]int{{0, 1, 0}, {1, 0, 0}}}, {[][]int{{-1}, {1}, {1}}, [][]int{{1, 0, 1}, {1, 1, 0}}}, {[][]int{{-4}, {6}}, [][]int{{3, 2}}},
	} {
		if f, e := Of(x.c); e != api.OK || !same(f, x.flows) {
			t.Errorf("Of(%v) gives %v, %d", x.c, f, e)
		}
	}
	seven := [][]int{{0}, {0}, {0}, {0}, {0}, {0}, {0}}
	for _, c := range [][][]int{nil, {{}}, {{17}}, seven, {{1}, {1, 2}}} {
		_, e1 := Of(c)
		_, _, e2 := Bound(c, nil, -1)
		_, e3 := Allows(c, nil, nil)
		if e1 != api.ErrShape || e2 != api.ErrShape || e3 != api.ErrShape || Holds(c, make([]int, len(c))) || Holds(c, slices.Repeat([]int{1}, len(c))) {
			t.Errorf("%v: errors %d, %d, %d", c, e1, e2, e3)
		}
	}
}

// TestHolds checks P11.1: what is a semiflow.
func TestHolds(t *testing.T) {
	for _, x := range []struct {
		y  []int
		ok bool
	}{
		{[]int{1, 1, 2}, true}, {[]int{3, 3, 6}, true}, {[]int{1, 1, 1}, false}, {[]int{0, 0, 0}, false}, {[]int{-1, -1, -2}, false}, {[]int{1, 1}, false}, {nil, false},
		{[]int{1 << 39, 1 << 39, 1 << 40}, true}, {[]int{1 << 40, 1 << 40, 1 << 41}, false},
	} {
		if Holds(move, x.y) != x.ok {
			t.Errorf("Holds of %v is not %v", x.y, x.ok)
		}
	}
}

// TestValue checks P11.2: sums, bounds, and what is allowed.
func TestValue(t *testing.T) {
	const most = api.MaxNumber
	for _, x := range []struct {
		y, v []int
		n    int
		e    api.Errno
	}{
		{[]int{1, 2}, []int{3, 4}, 11, api.OK}, {nil, nil, 0, api.OK}, {[]int{1}, []int{-1, 2}, 0, api.ErrLength}, {make([]int, 7), make([]int, 7), 0, api.ErrLength},
		{[]int{-1}, []int{1}, 0, api.ErrRange}, {[]int{1<<40 + 1}, []int{0}, 0, api.ErrRange}, {[]int{1}, []int{-1}, 0, api.ErrRange}, {[]int{1}, []int{most + 1}, 0, api.ErrRange},
		{slices.Repeat([]int{1 << 40}, 6), slices.Repeat([]int{most}, 6), 6 << 60, api.OK},
	} {
		if n, e := Value(x.y, x.v); n != x.n || e != x.e {
			t.Errorf("Value(%v, %v) gives %d, %d", x.y, x.v, n, e)
		}
	}
	for _, x := range []struct {
		c     [][]int
		start []int
		place int
		n     int
		ok    bool
		e     api.Errno
	}{
		{move, []int{3, 0, 1}, 2, 2, true, api.OK}, {move, []int{3, 0, 1}, 0, 5, true, api.OK}, {[][]int{{1}}, []int{5}, 0, 0, false, api.OK},
		{[][]int{{-1}, {1}, {1}}, []int{1, 5, 2}, 0, 3, true, api.OK}, {[][]int{{-1}, {1}, {1}}, []int{1, 5, 2}, 1, 6, true, api.OK}, {[][]int{{-1}, {1}, {0}}, []int{1, 5, 2}, 2, 2, true, api.OK}, {move, []int{-1}, 9, 0, false, api.ErrLength}, {move, []int{-1, 0, 0}, 0, 0, false, api.ErrRange},
		{move, []int{0, 0, 0}, 3, 0, false, api.ErrRange}, {move, []int{0, 0, 0}, -1, 0, false, api.ErrRange}, {move, []int{0, 0, most + 1}, 0, 0, false, api.ErrRange},
	} {
		if n, ok, e := Bound(x.c, x.start, x.place); n != x.n || ok != x.ok || e != x.e {
			t.Errorf("Bound(%v, %v, %d) gives %d, %v, %d", x.c, x.start, x.place, n, ok, e)
		}
	}
	for _, x := range []struct {
		start, v []int
		ok       bool
		e        api.Errno
	}{
		{[]int{3, 0, 0}, []int{1, 0, 1}, true, api.OK}, {[]int{3, 0, 0}, []int{1, 0, 0}, false, api.OK}, {[]int{3, 0, 0}, []int{-1}, false, api.ErrLength}, {[]int{3}, []int{0, 0, -1}, false, api.ErrLength},
		{[]int{0, 0, 0}, []int{0, 0, -1}, false, api.ErrRange}, {[]int{0, most + 1, 0}, []int{0, 0, 0}, false, api.ErrRange},
	} {
		if ok, e := Allows(move, x.start, x.v); ok != x.ok || e != x.e {
			t.Errorf("Allows(%v, %v) gives %v, %d", x.start, x.v, ok, e)
		}
	}
}

// TestAgainstSearch checks P11.1 against all small semiflows: those with minimal support and without common divisor.
func TestAgainstSearch(t *testing.T) {
	r := rand.New(rand.NewSource(8))
	for range 300 {
		c := make([][]int, 1+r.Intn(3))
		rules := 1 + r.Intn(2)
		for i := range c {
			for range rules {
				c[i] = append(c[i], r.Intn(5)-2)
			}
		}
		var all [][]int
		for n := range 1 << (4 * len(c)) { // elements below 16: minimal ones of such matrices are not greater
			y := make([]int, len(c))
			for i := range y {
				y[i] = n >> (4 * i) & 15
			}
			if Holds(c, y) {
				all = append(all, y)
			}
		}
		var want [][]int
		for _, y := range all {
			if !slices.ContainsFunc(all, func(z []int) bool { return less(z, y) }) {
				want = append(want, y)
			}
		}
		slices.SortFunc(want, slices.Compare)
		if f, e := Of(c); e != api.OK || !same(f, want) {
			t.Fatalf("Of(%v) gives %v, %d and not %v", c, f, e, want)
		}
	}
}

// less reports whether the support of z is smaller than that of y, or equal and z is smaller.
func less(z, y []int) bool {
	smaller := false
	for i := range z {
		if z[i] > 0 && y[i] == 0 {
			return false
		}
		smaller = smaller || z[i] == 0 && y[i] > 0
	}
	return smaller || slices.Compare(z, y) < 0
}

// TestMost checks P11.1: as many places as there may be, and that errors come alone.
func TestMost(t *testing.T) {
	six := [][]int{{-1, 0}, {1, -1}, {0, 1}, {0, 0}, {-1, 0}, {1, 0}}
	if f, e := Of(six); e != api.OK || !same(f, [][]int{{0, 0, 0, 0, 1, 1}, {0, 0, 0, 1, 0, 0}, {0, 1, 1, 0, 1, 0}, {1, 0, 0, 0, 0, 1}, {1, 1, 1, 0, 0, 0}}) {
		t.Errorf("Of gives %v, %d", f, e)
	}
	if ok, e := Allows(nil, nil, nil); e != api.ErrShape || ok {
		t.Errorf("Allows gives %v, %d", ok, e)
	}
}
