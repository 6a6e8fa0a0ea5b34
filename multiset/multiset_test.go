package multiset

import (
	"math/rand"
	"slices"
	"testing"
)

// grid returns a table with rows and columns, true where one is not 0.
func grid(rows, columns int, one func(i, j int) bool) [][]bool {
	out := make([][]bool, rows)
	for i := range out {
		out[i] = make([]bool, columns)
		for j := range out[i] {
			out[i][j] = one(i, j)
		}
	}
	return out
}

func yes(i, j int) bool { return true }

// TestInvalidTables checks P3.1 and P3.2 for tables that are not valid.
func TestInvalidTables(t *testing.T) {
	for _, x := range []struct {
		below [][]bool
		ok    bool
	}{
		{nil, true}, {[][]bool{{}}, true}, {grid(12, 12, yes), true}, {grid(13, 12, yes), false},
		{grid(1, 13, yes), false}, {[][]bool{{true}, {true, true}}, false}, {[][]bool{{true}, {}}, false},
	} {
		if Valid(x.below) != x.ok {
			t.Errorf("Valid of %d rows is %v", len(x.below), !x.ok)
		}
		if n, ok := Most(x.below); ok != x.ok || !ok && n != 0 {
			t.Errorf("Most of %d rows gives %d, %v", len(x.below), n, ok)
		}
		if m, ok := Match(x.below); !x.ok && (ok || len(m) > 0) {
			t.Errorf("Match of %d rows gives %v", len(x.below), m)
		}
		if !x.ok && Proves(x.below, make([]int, len(x.below))) {
			t.Error("Proves accepts a table that is not valid")
		}
	}
}

// TestExamples checks P3.1 and P3.2 by hand.
func TestExamples(t *testing.T) {
	below := [][]bool{{true, true}, {true, false}}
	if m, ok := Match(below); !ok || !slices.Equal(m, []int{1, 0}) {
		t.Errorf("Match gives %v, %v", m, ok)
	}
	if m, ok := Match(nil); !ok || len(m) != 0 {
		t.Errorf("Match of no rows gives %v, %v", m, ok)
	}
	if m, ok := Match([][]bool{{}}); ok || len(m) != 0 {
		t.Errorf("Match of a row without columns gives %v, %v", m, ok)
	}
	for _, m := range [][]int{{0, 1}, {1, 1}, {0, 0}, {1}, {1, 0, 0}, {1, -1}, {2, 0}, nil} {
		if Proves(below, m) {
			t.Errorf("Proves accepts %v", m)
		}
	}
	if !Proves(below, []int{1, 0}) || !Proves(nil, nil) {
		t.Error("Proves refuses a matching")
	}
}

// search finds the least matching, and the greatest number of rows, by trying all.
func search(below [][]bool, row int, used map[int]bool, match []int) (best []int, most int) {
	if row == len(below) {
		return slices.Clone(match), 0
	}
	_, most = search(below, row+1, used, append(match, -1))
	for j, fits := range below[row] {
		if fits && !used[j] {
			used[j] = true
			b, n := search(below, row+1, used, append(match, j))
			delete(used, j)
			most = max(most, n+1)
			if best == nil && b != nil && !slices.Contains(b, -1) {
				best = b
			}
		}
	}
	return best, most
}

// TestAgainstSearch checks P3.1 and P3.2 for many tables, against trying all matchings.
func TestAgainstSearch(t *testing.T) {
	r := rand.New(rand.NewSource(1))
	for range 3000 {
		below := grid(r.Intn(5), r.Intn(6), func(i, j int) bool { return r.Intn(3) == 0 })
		before := table(below)
		best, n := search(below, 0, map[int]bool{}, nil)
		m, ok := Match(below)
		if ok != (best != nil || len(below) == 0) || !slices.Equal(m, best) || ok && !Proves(below, m) {
			t.Fatalf("Match of %v gives %v, %v and not %v", below, m, ok, best)
		}
		if k, ok := Most(below); !ok || k != n {
			t.Fatalf("Most of %v gives %d and not %d", below, k, n)
		}
		if !slices.EqualFunc(below, before, slices.Equal) {
			t.Fatal("an argument was changed")
		}
	}
}
