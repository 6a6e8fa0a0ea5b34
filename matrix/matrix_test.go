package matrix

import (
	"fmt"
	"math/big"
	"math/rand"
	"testing"

	"coverability/api"
)

func same(a, b any) bool { return fmt.Sprint(a) == fmt.Sprint(b) }

func zeros(rows, columns int) [][]int {
	m := make([][]int, rows)
	for i := range m {
		m[i] = make([]int, columns)
	}
	return m
}

// TestCheck checks P10.1: which matrices are valid, and that all functions say so.
func TestCheck(t *testing.T) {
	for _, x := range []struct {
		m [][]int
		e api.Errno
	}{
		{nil, api.ErrShape}, {[][]int{{}}, api.ErrShape}, {zeros(1, 1), api.OK}, {zeros(6, 12), api.OK}, {zeros(12, 6), api.OK}, {zeros(7, 7), api.ErrShape},
		{zeros(1, 13), api.ErrShape}, {zeros(13, 1), api.ErrShape}, {[][]int{{1}, {1, 2}}, api.ErrShape}, {[][]int{{16, -16}}, api.OK}, {[][]int{{17}}, api.ErrShape}, {[][]int{{-17}}, api.ErrShape},
	} {
		_, e1 := Transpose(x.m)
		_, e2 := Rank(x.m)
		_, e3 := Kernel(x.m)
		if Check(x.m) != x.e || e1 != x.e || e2 != x.e || e3 != x.e {
			t.Errorf("%v: %d, %d, %d, %d", x.m, Check(x.m), e1, e2, e3)
		}
	}
	if _, e := Apply(nil, nil); e != api.ErrShape {
		t.Errorf("Apply gives %d", e)
	}
	if _, e := Apply(zeros(1, 2), []int{api.MaxNumber + 1}); e != api.ErrLength {
		t.Errorf("Apply gives %d", e)
	}
	if _, e := Apply(zeros(1, 1), []int{-api.MaxNumber - 1}); e != api.ErrRange {
		t.Errorf("Apply gives %d", e)
	}
	if _, e := Multiply(zeros(1, 2), nil); e != api.ErrShape {
		t.Errorf("Multiply gives %d", e)
	}
	if _, e := Multiply(nil, zeros(2, 2)); e != api.ErrShape {
		t.Errorf("Multiply gives %d", e)
	}
	if _, e := Multiply(zeros(1, 2), zeros(1, 2)); e != api.ErrLength {
		t.Errorf("Multiply gives %d", e)
	}
}

// TestProducts checks P10.1 by hand.
func TestProducts(t *testing.T) {
	m := [][]int{{1, 2, 3}, {4, 5, 6}}
	if x, e := Transpose(m); e != api.OK || !same(x, [][]int{{1, 4}, {2, 5}, {3, 6}}) {
		t.Errorf("Transpose gives %v, %d", x, e)
	}
	if x, e := Apply(m, []int{1, 0, -api.MaxNumber}); e != api.OK || !same(x, []int{1 - 3*api.MaxNumber, 4 - 6*api.MaxNumber}) {
		t.Errorf("Apply gives %v, %d", x, e)
	}
	if x, e := Multiply(m, [][]int{{1, 0}, {0, 1}, {16, 16}}); e != api.OK || !same(x, [][]int{{49, 50}, {100, 101}}) {
		t.Errorf("Multiply gives %v, %d", x, e)
	}
	if !same(m, [][]int{{1, 2, 3}, {4, 5, 6}}) {
		t.Error("an argument was changed")
	}
}

// TestKernel checks P10.2 by hand.
func TestKernel(t *testing.T) {
	for _, x := range []struct {
		m, kernel [][]int
		rank      int
	}{
		{[][]int{{1, -1, 0}}, [][]int{{1, 1, 0}, {0, 0, 1}}, 1}, {[][]int{{0, 0}}, [][]int{{1, 0}, {0, 1}}, 0}, {[][]int{{2, 0}, {0, -3}}, nil, 2},
		{[][]int{{-4, 6}}, [][]int{{3, 2}}, 1}, {[][]int{{4, 6}}, [][]int{{-3, 2}}, 1}, {[][]int{{0, 5, 10}, {0, 0, 0}}, [][]int{{1, 0, 0}, {0, -2, 1}}, 1},
	} {
		k, e1 := Kernel(x.m)
		r, e2 := Rank(x.m)
		if e1 != api.OK || e2 != api.OK || !same(k, x.kernel) || r != x.rank {
			t.Errorf("%v: kernel %v, rank %d", x.m, k, r)
		}
	}
}

// rank computes the rank, and the free columns, with rational numbers.
func rank(m [][]int) (int, []int) {
	var rows [][]*big.Rat
	for _, row := range m {
		var r []*big.Rat
		for _, x := range row {
			r = append(r, big.NewRat(int64(x), 1))
		}
		rows = append(rows, r)
	}
	top, free := 0, []int(nil)
	for c := range m[0] {
		at := top
		for at < len(rows) && rows[at][c].Sign() == 0 {
			at++
		}
		if at == len(rows) {
			free = append(free, c)
			continue
		}
		rows[top], rows[at] = rows[at], rows[top]
		for i := top + 1; i < len(rows); i++ {
			f := new(big.Rat).Quo(rows[i][c], rows[top][c])
			for j := range rows[i] {
				rows[i][j] = new(big.Rat).Sub(rows[i][j], new(big.Rat).Mul(f, rows[top][j]))
			}
		}
		top++
	}
	return top, free
}

// TestAgainstRationals checks P10.2 for many matrices, also with the greatest entries.
func TestAgainstRationals(t *testing.T) {
	r := rand.New(rand.NewSource(2))
	for n := range 3000 {
		rows, columns := 1+r.Intn(12), 1+r.Intn(12)
		if min(rows, columns) > 6 {
			rows = 6
		}
		m := zeros(rows, columns)
		for i := range m {
			for j := range m[i] {
				switch n % 3 {
				case 0:
					m[i][j] = r.Intn(33) - 16
				case 1:
					m[i][j] = 32*r.Intn(2) - 16
				default:
					m[i][j] = r.Intn(3) - 1
				}
			}
		}
		want, free := rank(m)
		got, _ := Rank(m)
		kernel, e := Kernel(m)
		if got != want || e != api.OK || len(kernel) != len(free) {
			t.Fatalf("%v: rank %d and not %d, kernel %v", m, got, want, kernel)
		}
		for i, v := range kernel {
			divisor := 0
			for j, x := range v {
				divisor = common(divisor, x)
				if isFree := contains(free, j); isFree && (x != 0) != (j == free[i]) || j == free[i] && x <= 0 {
					t.Fatalf("%v: kernel %v", m, kernel)
				}
			}
			if divisor != 1 && divisor != -1 || len(v) != columns {
				t.Fatalf("%v: %v is not primitive", m, v)
			}
			for _, row := range m {
				sum := 0
				for j, x := range row {
					sum += x * v[j]
				}
				if sum != 0 {
					t.Fatalf("%v: %v is not in the kernel", m, v)
				}
			}
		}
	}
}

func contains(l []int, x int) bool {
	for _, y := range l {
		if x == y {
			return true
		}
	}
	return false
}

// TestMost checks P10.1: numbers at their limits.
func TestMost(t *testing.T) {
	if v, e := Apply([][]int{{16, -16}}, []int{api.MaxNumber, -api.MaxNumber}); e != api.OK || !same(v, []int{32 * api.MaxNumber}) {
		t.Errorf("Apply gives %v, %d", v, e)
	}
	if _, e := Apply([][]int{{1}}, []int{api.MaxNumber + 1}); e != api.ErrRange {
		t.Errorf("Apply gives %d", e)
	}
}
