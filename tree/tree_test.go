package tree

import (
	"slices"
	"testing"

	"coverability/api"
)

func node(label int, kids ...api.Tree) api.Tree { return api.Tree{Label: label, Kids: kids} }

// all returns the trees over two labels with a number of nodes; forests the lists of trees.
func all(nodes int) (out []api.Tree) {
	for _, f := range forests(nodes - 1) {
		out = append(out, node(0, f...), node(1, f...))
	}
	return out
}

func forests(nodes int) [][]api.Tree {
	if nodes == 0 {
		return [][]api.Tree{nil}
	}
	var out [][]api.Tree
	for first := 1; first <= nodes; first++ {
		for _, t := range all(first) {
			for _, f := range forests(nodes - first) {
				out = append(out, slices.Concat([]api.Tree{t}, f))
			}
		}
	}
	return out
}

// chain returns a path of nodes.
func chain(n int) api.Tree {
	t := node(0)
	for range n - 1 {
		t = node(0, t)
	}
	return t
}

// TestValid checks P4.1: which trees are valid, their sizes and labels.
func TestValid(t *testing.T) {
	wide := node(0, make([]api.Tree, 11)...)
	for _, x := range []struct {
		t    api.Tree
		size int
	}{{node(3), 1}, {chain(12), 12}, {chain(13), 0}, {chain(1000), 0}, {wide, 12}, {node(0, wide), 0}, {node(16), 0}, {node(0, node(-1)), 0}} {
		if Valid(x.t) != (x.size > 0) || Size(x.t) != x.size || len(Labels(x.t)) != x.size {
			t.Errorf("size %d: Valid %v, Size %d, Labels %v", x.size, Valid(x.t), Size(x.t), Labels(x.t))
		}
	}
	if l := Labels(node(1, node(2, node(3)), node(4))); !slices.Equal(l, []int{1, 2, 3, 4}) {
		t.Errorf("Labels gives %v", l)
	}
}

// TestExamples checks P4.1: embeddings, and what proves them.
func TestExamples(t *testing.T) {
	a, b := node(0, node(1)), node(0, node(2, node(1)))
	if at, ok := Embed(a, b); !ok || !slices.Equal(at, []int{0, 2}) {
		t.Errorf("Embed gives %v, %v", at, ok)
	}
	if at, ok := Embed(node(0, node(1), node(1)), node(0, node(1))); ok || len(at) > 0 {
		t.Errorf("Embed gives %v, %v", at, ok)
	}
	if !Leq(node(1), b) || Leq(node(16), node(16)) || Leq(node(0), chain(13)) || Leq(chain(13), chain(13)) {
		t.Error("Leq is wrong")
	}
	for _, at := range [][]int{{0, 1}, {0}, {0, 2, 2}, {2, 2}, {0, 3}, {0, -1}, {-1, 2}, nil} {
		if Proves(a, b, at) {
			t.Errorf("Proves accepts %v", at)
		}
	}
	two := node(0, node(1), node(1))
	if Proves(two, two, []int{0, 2, 1}) || Proves(two, two, []int{0, 1, 1}) || !Proves(two, two, []int{0, 1, 2}) {
		t.Error("Proves does not see to the order of children")
	}
	deep := node(0, node(1, node(1)))
	if Proves(two, deep, []int{0, 1, 2}) || Leq(two, deep) {
		t.Error("two children went into the subtree of one")
	}
}

// maps reports whether some list of nodes is an embedding, by trying all.
func maps(a, b api.Tree, at []int) bool {
	if len(at) == Size(a) {
		return Proves(a, b, at)
	}
	for j := range Size(b) {
		if maps(a, b, append(at, j)) {
			return true
		}
	}
	return false
}

// TestAgainstSearch checks P4.1 and P4.2 for all small trees: embeddings, the partial order, and Compare.
func TestAgainstSearch(t *testing.T) {
	var trees []api.Tree
	for n := 1; n <= 3; n++ {
		trees = append(trees, all(n)...)
	}
	trees = append(trees, all(4)[:20]...)
	for _, a := range trees {
		for _, b := range trees {
			at, ok := Embed(a, b)
			if ok != maps(a, b, nil) || ok != Leq(a, b) || ok && !Proves(a, b, at) {
				t.Fatalf("Embed(%v, %v) gives %v, %v", a, b, at, ok)
			}
			if Leq(a, b) && Leq(b, a) != (Compare(a, b) == 0) {
				t.Errorf("%v and %v are below each other", a, b)
			}
			if Compare(a, b) != -Compare(b, a) {
				t.Errorf("Compare of %v and %v is not a total order", a, b)
			}
			for _, c := range trees[:30] {
				if Leq(a, b) && Leq(b, c) && !Leq(a, c) {
					t.Errorf("%v, %v and %v are not in order", a, b, c)
				}
			}
		}
	}
}

// TestCompare checks P4.2, with trees that are too large.
func TestCompare(t *testing.T) {
	for _, x := range []struct {
		a, b api.Tree
		c    int
	}{
		{node(0, node(5)), node(1), -1}, {node(1), node(1, node(0)), -1}, {node(1, node(0), node(9)), node(1, node(1), node(0)), -1},
		{node(-7), node(99), -1}, {chain(13), chain(40), 0}, {chain(13), node(99), 1}, {node(99), chain(13), -1}, {chain(12), chain(12), 0},
	} {
		if Compare(x.a, x.b) != x.c {
			t.Errorf("Compare gives %d and not %d", Compare(x.a, x.b), x.c)
		}
	}
}

// TestOneInvalid checks P4.1: one tree that is not valid is enough, and the largest ones are.
func TestOneInvalid(t *testing.T) {
	if Proves(node(0), node(0, node(16)), []int{0}) || Proves(node(16), node(16), []int{0}) || Proves(node(16), node(0), []int{0}) || Proves(node(16), node(0), nil) || Leq(node(0), node(0, node(-1))) {
		t.Error("a tree is compared that is not valid")
	}
	if !Leq(chain(12), chain(12)) || Size(chain(12)) != 12 || Compare(chain(12), chain(11)) == 0 || Compare(chain(12), chain(13)) != -1 {
		t.Error("the largest trees are wrong")
	}
}
