package branching

import (
	"fmt"
	"testing"

	"coverability/api"
	"coverability/order"
	"coverability/syntax"
	"coverability/tree"
	"coverability/values"
)

func parse(text string) api.Model {
	m, line, e := syntax.Parse(text)
	if e != api.OK {
		panic([]any{text, line, e})
	}
	return m
}

func val(s string) api.Value {
	v, e := order.Parse(s)
	if e != api.OK {
		panic(s)
	}
	return v
}

func der(rule int, kids ...api.Derivation) api.Derivation {
	return api.Derivation{Rule: rule, Kids: kids}
}

func sample() api.Model {
	return parse(`model branching
states a b
places x
rule begin 0 -> a give x 2
rule join a + a -> a
rule use a -> b need x 3 give x 1
rule mixed a + b -> b need x 1`)
}

func chain(n int) api.Derivation {
	d := der(0)
	for range n - 1 {
		d = der(2, d)
	}
	return d
}

// TestDerive checks P21.1 by hand.
func TestDerive(t *testing.T) {
	join := der(1, der(0), der(0))
	for _, x := range []struct {
		d    api.Derivation
		want string
		e    api.Errno
	}{
		{der(0), "0(0 2)", api.OK}, {join, "0(0 4)", api.OK}, {der(2, join), "0(1 2)", api.OK}, {der(3, join, der(2, join)), "0(1 5)", api.OK}, {der(2, der(0)), "", api.ErrBlocked},
		{der(3, der(2, join), join), "", api.ErrBlocked}, {der(4), "", api.ErrRule}, {der(-1), "", api.ErrRule}, {der(0, der(0)), "", api.ErrRule}, {der(1, der(0)), "", api.ErrRule}, {der(2), "", api.ErrRule}, {der(2, der(0), der(0)), "", api.ErrRule},
		{der(9, der(2, der(0))), "", api.ErrBlocked}, {der(1, der(9), der(2, der(0))), "", api.ErrRule}, {der(1, der(2, der(0)), der(9)), "", api.ErrBlocked}, {chain(13), "", api.ErrLimit}, {chain(12), "", api.ErrBlocked}, {chain(1000), "", api.ErrLimit},
	} {
		c, e := Derive(sample(), x.d)
		if e != x.e || e == api.OK && !values.Same(c, val(x.want)) || e != api.OK && len(c.Kids) > 0 {
			t.Errorf("Derive(%v) gives %v, %d", x.d, c, e)
		}
	}
	counter := parse("model counter\nstates a\nplaces x\nstart 0(0 0)")
	if _, e := Derive(counter, chain(13)); e != api.ErrKind {
		t.Errorf("Derive gives %d", e)
	}
	if _, e := All(counter, 9); e != api.ErrKind {
		t.Errorf("All gives %d", e)
	}
	if _, e := Derive(api.Model{}, chain(13)); e != api.ErrKind {
		t.Errorf("Derive gives %d", e)
	}
	if Size(der(0)) != 1 || Size(join) != 3 || Size(chain(12)) != 12 || Size(chain(1000)) != 13 || Size(api.Derivation{Kids: make([]api.Derivation, 99)}) != 13 {
		t.Error("Size is wrong")
	}
}

// TestShape checks P21.3.
func TestShape(t *testing.T) {
	if s, e := Shape(der(1, der(0), der(15))); e != api.OK || fmt.Sprint(tree.Labels(s)) != "[1 0 15]" {
		t.Errorf("Shape gives %v, %d", s, e)
	}
	for _, x := range []struct {
		d api.Derivation
		e api.Errno
	}{{der(16), api.ErrRule}, {der(0, der(-1)), api.ErrRule}, {chain(13), api.ErrLimit}} {
		if s, e := Shape(x.d); e != x.e || s.Label != 0 || s.Kids != nil {
			t.Errorf("Shape gives %v, %d", s, e)
		}
	}
}

// derivations returns all derivations of a model of just one size.
func derivations(m api.Model, size int) []api.Derivation {
	var out []api.Derivation
	for i, r := range m.Rules {
		switch n := len(premises(r)); {
		case n == 0 && size == 1:
			out = append(out, der(i))
		case n == 1:
			for _, k := range sized(m, size-1) {
				out = append(out, der(i, k))
			}
		case n == 2:
			for first := 1; first < size-1; first++ {
				for _, k := range sized(m, first) {
					for _, l := range sized(m, size-1-first) {
						out = append(out, der(i, k, l))
					}
				}
			}
		}
	}
	return out
}

func sized(m api.Model, size int) []api.Derivation {
	if size < 1 {
		return nil
	}
	return derivations(m, size)
}

// TestAll checks P21.2 against all derivations, and its errors.
func TestAll(t *testing.T) {
	var found []api.Value
	for most := range 7 {
		for _, d := range sized(sample(), most) {
			if c, e := Derive(sample(), d); e == api.OK {
				found = append(found, c)
			}
		}
		if l, e := All(sample(), most); e != api.OK || !values.SameLists(l, values.Ascending(found)) {
			t.Errorf("All(%d) gives %v, %d", most, l, e)
		}
	}
	for _, most := range []int{-1, 7} {
		if l, e := All(sample(), most); e != api.ErrRange || l != nil {
			t.Errorf("All(%d) gives %v, %d", most, l, e)
		}
	}
	many := parse(`model branching
states a
places x y z v
rule b 0 -> a give x 1
rule c 0 -> a give y 1
rule d 0 -> a give z 1
rule e 0 -> a give v 1
rule g a -> a give x 16
rule h a -> a give y 16
rule i a -> a give z 16
rule j a -> a give v 16
rule k a + a -> a`)
	if l, e := All(many, 6); e != api.ErrLimit || l != nil {
		t.Errorf("All of many gives %d, %d", len(l), e)
	}
	if l, e := All(many, 1); e != api.OK || len(l) != 4 {
		t.Errorf("All of size 1 gives %v, %d", l, e)
	}
}

// TestLargest checks P21.2 and P21.3: as much as there may be.
func TestLargest(t *testing.T) {
	if s, e := Shape(chain(12)); e != api.OK || tree.Size(s) != 12 {
		t.Errorf("Shape gives %v, %d", s, e)
	}
	// Behind n rules x and y are at least 0 and together n - 1, in one of two states: 2 * (1 + 2 + ... + 6) configurations are few.
	few := parse("model branching\nstates a b\nplaces x y\nrule b1 0 -> a\nrule b2 0 -> b\nrule x1 a -> a give x 1\nrule x2 b -> b give x 1\nrule y1 a -> a give y 1\nrule y2 b -> b give y 1")
	if l, e := All(few, 6); e != api.OK || len(l) != 42 {
		t.Errorf("All gives %d, %d", len(l), e)
	}
}
