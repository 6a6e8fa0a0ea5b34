package priority

import (
	"fmt"
	"slices"
	"testing"

	"coverability/api"
	"coverability/word"
)

func same(a, b any) bool { return fmt.Sprintf("%v", a) == fmt.Sprintf("%v", b) }

func all(letters, length int) [][]int {
	out := [][]int{nil}
	for i := 0; i < len(out); i++ {
		if len(out[i]) < length {
			for x := range letters {
				out = append(out, slices.Concat(out[i], []int{x}))
			}
		}
	}
	return out
}

// TestValid checks P5.1: which ranks and words are valid.
func TestValid(t *testing.T) {
	for _, x := range []struct {
		ranks, w []int
		ok       bool
	}{
		{[]int{0}, nil, true}, {[]int{5, 0, 0, 0, 0, 0}, []int{5, 0}, true}, {nil, nil, false}, {make([]int, 7), nil, false},
		{[]int{6}, nil, false}, {[]int{-1}, nil, false}, {[]int{0, 1}, []int{2}, false}, {[]int{0, 1}, []int{-1}, false},
		{[]int{0}, make([]int, 12), true}, {[]int{0}, make([]int, 13), false},
	} {
		if Valid(x.ranks, x.w) != x.ok || Proves(x.ranks, x.w, nil, nil) != (x.ok && len(x.w) == 0) {
			t.Errorf("%v, %v: Valid is not %v", x.ranks, x.w, x.ok)
		}
		if !x.ok && (len(Drops(x.ranks, x.w)) > 0 || Leq(x.ranks, x.w, x.w) || Proves(x.ranks, x.w, x.w, nil)) {
			t.Errorf("%v, %v: something is accepted that is not valid", x.ranks, x.w)
		}
	}
}

// TestExamples checks P5.1 and P5.2 by hand.
func TestExamples(t *testing.T) {
	r := []int{0, 1}
	if !Leq(r, []int{1}, []int{0, 1}) || Leq(r, []int{0}, []int{0, 1}) || Leq(r, nil, []int{0}) || !Leq(r, nil, nil) || Leq(r, []int{0}, nil) {
		t.Error("Leq is wrong")
	}
	if d := Drops(r, []int{1, 0, 0, 1}); !same(d, [][]int{{1, 0, 1}}) {
		t.Errorf("Drops gives %v", d)
	}
	if d := Drops(r, []int{0, 1, 1, 0}); !same(d, [][]int{{0, 1, 0}, {1, 1, 0}}) {
		t.Errorf("Drops gives %v", d)
	}
	if at, ok := Embed(r, []int{0, 0}, []int{0, 0, 0}); !ok || !same(at, []int{0, 2}) {
		t.Errorf("Embed gives %v, %v", at, ok)
	}
	// The first 0 is no place: the 1 behind it is not superseded by the last 0.
	if at, ok := Embed(r, []int{1, 0}, []int{0, 1, 1, 0}); !ok || !same(at, []int{1, 3}) && !same(at, []int{2, 3}) {
		t.Errorf("Embed gives %v, %v", at, ok)
	}
	if at, ok := Embed(r, []int{0, 0}, []int{0, 1, 0}); ok || len(at) > 0 {
		t.Errorf("Embed gives %v, %v", at, ok)
	}
}

// TestFalling checks P5.2, against all words.
func TestFalling(t *testing.T) {
	if f, e := Falling([]int{0, 1}, 1); e != api.OK || !same(f, [][]int{{0}, {1}, {1, 0}}) {
		t.Errorf("Falling gives %v, %d", f, e)
	}
	if f, e := Falling([]int{6}, 1); e != api.ErrRange || len(f) > 0 {
		t.Errorf("Falling gives %v, %d", f, e)
	}
	if f, e := Falling([]int{1, 2}, -1<<63); e != api.OK || len(f) > 0 {
		t.Errorf("Falling gives %v, %d", f, e)
	}
	for _, ranks := range [][]int{{0, 1, 2}, {2, 2, 0}, {1, 3, 3, 5}} {
		for most := -1; most < 7; most++ {
			var want [][]int
			for _, w := range all(len(ranks), 4)[1:] {
				ok := ranks[w[0]] <= most
				for i := 1; i < len(w); i++ {
					ok = ok && ranks[w[i]] < ranks[w[i-1]]
				}
				if ok {
					want = append(want, w)
				}
			}
			if f, e := Falling(ranks, most); e != api.OK || !same(f, want) || !slices.IsSortedFunc(f, word.Compare) {
				t.Errorf("Falling(%v, %d) gives %v, %d", ranks, most, f, e)
			}
		}
	}
	if f, _ := Falling([]int{5, 4, 3, 2, 1, 0}, 5); len(f) != 63 {
		t.Errorf("Falling gives %d words", len(f))
	}
}

// places reports all places by trying all, the least first.
func places(ranks, a, b, front []int) []int {
	if len(front) == len(a) {
		if Proves(ranks, a, b, front) {
			return slices.Clone(front)
		}
		return nil
	}
	for j := range b {
		if p := places(ranks, a, b, append(slices.Clone(front), j)); p != nil {
			return p
		}
	}
	return nil
}

// TestAgainstSearch checks P5.1: the least places against trying all, and Leq against Drops.
func TestAgainstSearch(t *testing.T) {
	for _, ranks := range [][]int{{0, 1}, {1, 1}, {0, 2, 1}} {
		words := all(len(ranks), 4)
		below := map[string]bool{}
		for _, b := range words { // shorter words come first
			below[fmt.Sprint(b, b)] = true
			for _, d := range Drops(ranks, b) {
				for _, a := range words {
					if below[fmt.Sprint(a, d)] {
						below[fmt.Sprint(a, b)] = true
					}
				}
			}
		}
		for _, a := range words {
			for _, b := range words {
				at, ok := Embed(ranks, a, b)
				if ok != below[fmt.Sprint(a, b)] || ok != Leq(ranks, a, b) || !ok && len(at) > 0 {
					t.Fatalf("ranks %v: Embed(%v, %v) gives %v, %v", ranks, a, b, at, ok)
				}
				if ok && len(a) > 0 && !same(at, places(ranks, a, b, nil)) {
					t.Fatalf("ranks %v: Embed(%v, %v) gives %v", ranks, a, b, at)
				}
			}
		}
	}
}

// TestProves checks P5.1: what does not prove.
func TestProves(t *testing.T) {
	r := []int{0, 1}
	for _, x := range []struct {
		a, b, at []int
		ok       bool
	}{
		{[]int{1}, []int{0, 1}, []int{1}, true}, {[]int{0}, []int{0, 1}, []int{0}, false}, {[]int{0}, []int{1, 0}, []int{1}, false},
		{[]int{0}, []int{0}, []int{-1}, false}, {[]int{0}, []int{0}, nil, false}, {nil, []int{0}, nil, false}, {nil, nil, []int{0}, false},
		{[]int{0, 0}, []int{0, 0, 0}, []int{0, 1}, false}, {[]int{0, 0}, []int{0, 0, 0}, []int{1, 2}, true},
	} {
		if Proves(r, x.a, x.b, x.at) != x.ok {
			t.Errorf("Proves(%v, %v, %v) is not %v", x.a, x.b, x.at, x.ok)
		}
	}
}

// TestOneInvalid checks P5.1: one word that is not valid is enough.
func TestOneInvalid(t *testing.T) {
	r := []int{0, 1}
	good, bad := []int{1}, []int{2, 1}
	if Leq(r, good, bad) || Leq(r, bad, good) || Proves(r, good, bad, []int{1}) || Proves(r, bad, []int{2, 1}, []int{0, 1}) || Proves(r, good, []int{1, 2, 1}, []int{2}) {
		t.Error("a word is compared that is not valid")
	}
}
