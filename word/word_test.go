package word

import (
	"fmt"
	"slices"
	"testing"

	"coverability/api"
)

func same(a, b any) bool { return fmt.Sprintf("%v", a) == fmt.Sprintf("%v", b) }

// all returns the words over some letters up to a length.
func all(letters, length int) [][]int {
	out := [][]int{nil}
	for i := 0; i < len(out); i++ {
		if len(out[i]) < length {
			for x := range letters {
				out = append(out, slices.Concat(out[i], []int{x}))
			}
		}
	}
	return out
}

// TestValidAndCompare checks P2.1: which words are valid, and their order.
func TestValidAndCompare(t *testing.T) {
	if !Valid(nil) || !Valid([]int{0, 15}) || Valid([]int{16}) || Valid([]int{-1}) || !Valid(make([]int, 12)) || Valid(make([]int, 13)) {
		t.Error("Valid is wrong")
	}
	if Compare([]int{9}, []int{0, 0}) != -1 || Compare([]int{1, 3}, []int{1, 2}) != 1 || Compare(nil, []int{}) != 0 || Compare([]int{-5}, []int{99}) != -1 {
		t.Error("Compare is wrong")
	}
}

// TestEmbed checks P2.1: places, and what proves them.
func TestEmbed(t *testing.T) {
	for _, x := range []struct {
		a, b, places []int
		ok           bool
	}{
		{[]int{0, 1}, []int{0, 2, 1}, []int{0, 2}, true},
		{[]int{0, 0}, []int{1, 0, 0, 0}, []int{1, 2}, true},
		{nil, []int{1}, nil, true}, {nil, nil, nil, true},
		{[]int{1}, nil, nil, false}, {[]int{0, 1}, []int{1, 0}, nil, false},
		{[]int{16}, []int{16}, nil, false}, {nil, []int{-1}, nil, false}, {nil, make([]int, 13), nil, false},
	} {
		places, ok := Embed(x.a, x.b)
		if ok != x.ok || !slices.Equal(places, x.places) || Leq(x.a, x.b) != x.ok || Proves(x.a, x.b, places) != x.ok {
			t.Errorf("Embed(%v, %v) gives %v, %v", x.a, x.b, places, ok)
		}
	}
	a, b := []int{0, 1}, []int{0, 1, 0, 1}
	for _, x := range []struct {
		places []int
		ok     bool
	}{
		{[]int{0, 1}, true}, {[]int{2, 3}, true}, {[]int{0, 3}, true}, {[]int{2, 1}, false}, {[]int{0}, false},
		{[]int{0, 1, 2}, false}, {[]int{0, 4}, false}, {[]int{-1, 1}, false}, {[]int{1, 1}, false}, {nil, false},
	} {
		if Proves(a, b, x.places) != x.ok {
			t.Errorf("Proves of %v is not %v", x.places, x.ok)
		}
	}
}

// TestDrops checks P2.2: the words with one letter less.
func TestDrops(t *testing.T) {
	if d := Drops([]int{1, 0, 0}); !same(d, [][]int{{0, 0}, {1, 0}}) {
		t.Errorf("Drops gives %v", d)
	}
	if len(Drops(nil)) != 0 || len(Drops([]int{16})) != 0 || !same(Drops([]int{3}), [][]int{{}}) {
		t.Error("Drops of the empty word, or of none, is wrong")
	}
}

// TestMerge checks P2.2: Merge against all words.
func TestMerge(t *testing.T) {
	if m, e := Merge([]int{0}, []int{1}); e != api.OK || !same(m, [][]int{{0, 1}, {1, 0}}) {
		t.Errorf("Merge gives %v, %d", m, e)
	}
	if _, e := Merge([]int{16}, make([]int, 12)); e != api.ErrWord {
		t.Errorf("Merge of no word gives %d", e)
	}
	if _, e := Merge(make([]int, 4), make([]int, 5)); e != api.ErrLimit {
		t.Errorf("Merge of 9 letters gives %d", e)
	}
	words := all(2, 6)
	for _, a := range all(2, 3) {
		for _, b := range all(2, 3) {
			m, e := Merge(a, b)
			if e != api.OK || !slices.IsSortedFunc(m, Compare) {
				t.Fatalf("Merge(%v, %v) gives %v, %d", a, b, m, e)
			}
			for i, v := range m {
				for j, u := range m {
					if i != j && Leq(v, u) {
						t.Errorf("Merge(%v, %v) is not minimal: %v", a, b, m)
					}
				}
			}
			for _, w := range words {
				above := slices.ContainsFunc(m, func(v []int) bool { return Leq(v, w) })
				if above != (Leq(a, w) && Leq(b, w)) {
					t.Errorf("Merge(%v, %v): %v is wrong", a, b, w)
				}
			}
		}
	}
	for i := range 9 { // the greatest words that are allowed, all letters different
		m, e := Merge([]int{0, 1, 2, 3, 4, 5, 6, 7}[:i], []int{8, 9, 10, 11, 12, 13, 14, 15}[i:])
		if e != api.OK || len(m) == 0 || len(m[0]) != 8 {
			t.Errorf("Merge of %d and %d letters gives %d words, %d", i, 8-i, len(m), e)
		}
	}
}

// TestPartialOrder checks the consequences: an order, whose lower words are reached by Drops.
func TestPartialOrder(t *testing.T) {
	words := all(2, 4)
	for _, a := range words {
		for _, b := range words {
			if Leq(a, b) && Leq(b, a) && !slices.Equal(a, b) {
				t.Errorf("%v and %v are below each other", a, b)
			}
			reached := slices.Equal(a, b)
			for _, d := range Drops(b) {
				reached = reached || Leq(a, d)
			}
			if reached != Leq(a, b) {
				t.Errorf("Drops of %v and Leq of %v disagree", b, a)
			}
		}
	}
}

// TestResultsAreNew checks R2: results share no memory.
func TestResultsAreNew(t *testing.T) {
	a, b := []int{0, 1}, []int{2}
	m, _ := Merge(a, b)
	for _, l := range [][][]int{m, Drops(a)} {
		for _, w := range l {
			_ = append(w, 7)
			w[0] = 9
		}
	}
	if !slices.Equal(a, []int{0, 1}) || b[0] != 2 || m[1][1] == 9 {
		t.Error("a result shares memory")
	}
}
