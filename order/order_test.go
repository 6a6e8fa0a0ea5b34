package order

import (
	"strings"
	"testing"

	"coverability/api"
)

var (
	nat   = api.Type{Kind: api.TypeNat}
	three = api.Type{Kind: api.TypeLabel, Size: 3}
	trees = api.Type{Kind: api.TypeTree, Size: 2}
	falls = api.Type{Kind: api.TypePriority, Size: 2, Ranks: []int{0, 1}}
)

func product(parts ...api.Type) api.Type { return api.Type{Kind: api.TypeProduct, Parts: parts} }
func words(p api.Type) api.Type          { return api.Type{Kind: api.TypeWord, Parts: []api.Type{p}} }
func bags(p api.Type) api.Type           { return api.Type{Kind: api.TypeBag, Parts: []api.Type{p}} }

// val reads a value from its text.
func val(s string) api.Value {
	v, e := Parse(s)
	if e != api.OK {
		panic(s)
	}
	return v
}

// nested returns a type of words so deep.
func nested(depth int) api.Type {
	t := nat
	for range depth - 1 {
		t = words(t)
	}
	return t
}

func wide(n int) api.Value { return api.Value{Kids: make([]api.Value, n)} }

// doubled returns a value with 2^n leaves that share memory.
func doubled(n int) api.Value {
	var v api.Value
	for range n {
		v = api.Value{Kids: []api.Value{v, v}}
	}
	return v
}

// TestCheck checks P6.1: which types are valid.
func TestCheck(t *testing.T) {
	for _, x := range []api.Type{nat, three, trees, falls, product(nat), words(bags(product(nat, trees))), nested(8), {Kind: api.TypeLabel, Size: 16},
		product(nat, nat, nat, nat, nat, nat, nat, nat)} {
		if e := Check(x); e != api.OK {
			t.Errorf("Check of %v gives %d", x, e)
		}
	}
	for _, x := range []api.Type{{}, {Kind: 8}, {Kind: -1}, {Kind: api.TypeNat, Size: 1}, {Kind: api.TypeNat, Ranks: []int{0}}, {Kind: api.TypeNat, Parts: []api.Type{nat}},
		{Kind: api.TypeLabel}, {Kind: api.TypeLabel, Size: 17}, {Kind: api.TypeLabel, Size: 1, Ranks: []int{0}}, {Kind: api.TypeTree}, {Kind: api.TypeTree, Size: 17},
		{Kind: api.TypeTree, Size: 1, Parts: []api.Type{nat}}, {Kind: api.TypePriority}, {Kind: api.TypePriority, Size: 1}, {Kind: api.TypePriority, Size: 1, Ranks: []int{6}},
		{Kind: api.TypePriority, Size: 1, Ranks: []int{-1}}, {Kind: api.TypePriority, Size: 7, Ranks: make([]int, 7)}, {Kind: api.TypePriority, Size: 1, Ranks: []int{0}, Parts: []api.Type{nat}},
		product(), product(nat, nat, nat, nat, nat, nat, nat, nat, nat), product(api.Type{}), {Kind: api.TypeProduct, Size: 1, Parts: []api.Type{nat}},
		{Kind: api.TypeWord}, {Kind: api.TypeBag, Parts: []api.Type{nat, nat}}, {Kind: api.TypeWord, Size: 1, Parts: []api.Type{nat}},
		{Kind: api.TypeWord, Ranks: []int{0}, Parts: []api.Type{nat}}, nested(9), nested(1000)} {
		if e := Check(x); e != api.ErrType {
			t.Errorf("Check of %v gives %d", x, e)
		}
	}
}

// TestValid checks P6.1: which values are of a type.
func TestValid(t *testing.T) {
	for _, x := range []struct {
		t  api.Type
		v  api.Value
		ok bool
	}{
		{nat, val("1048576"), true}, {nat, val("1048577"), false}, {nat, val("-1"), false}, {nat, val("0(0)"), false},
		{three, val("2"), true}, {three, val("3"), false}, {three, val("-1"), false}, {three, val("0(0)"), false},
		{product(nat, three), val("0(7 2)"), true}, {product(nat, three), val("1(7 2)"), false}, {product(nat, three), val("0(7)"), false}, {product(nat, three), val("0(7 3)"), false},
		{words(nat), val("0(2 1)"), true}, {words(nat), wide(12), true}, {words(nat), wide(13), false}, {words(nat), val("1"), false},
		{bags(nat), val("0(1 1 2)"), true}, {bags(nat), val("0(2 1)"), false}, {bags(nat), wide(13), false}, {bags(nat), val("0"), true},
		{trees, val("1(0 1(1))"), true}, {trees, val("1(2)"), false}, {trees, wide(11), true}, {trees, wide(12), false},
		{falls, val("0(1 0)"), true}, {falls, val("0(2)"), false}, {falls, val("0(0(0))"), false}, {falls, val("1"), false}, {falls, wide(13), false},
		{words(words(nat)), api.Value{Kids: []api.Value{wide(12), wide(12)}}, true}, {api.Type{}, val("0"), false},
		{words(nested(7)), doubled(7), false}, {nested(8), doubled(900), false},
	} {
		if Valid(x.t, x.v) != x.ok {
			t.Errorf("Valid of %v is not %v", x.t, x.ok)
		}
	}
	big := api.Value{}
	for range 10 {
		big.Kids = append(big.Kids, wide(12))
	}
	if Size(big) != api.MaxSize+1 || Valid(words(words(nat)), big) {
		t.Errorf("Size gives %d", Size(big))
	}
}

// TestCompareAndSize checks P6.1: the total order and the size.
func TestCompareAndSize(t *testing.T) {
	l := []string{"-3(9)", "0", "0(5)", "0(0 9)", "0(1 0)", "0(1 0(0))", "0(1 1)", "2"}
	for i, a := range l {
		for j, b := range l {
			if c := Compare(val(a), val(b)); c != min(1, max(-1, i-j)) {
				t.Errorf("Compare(%s, %s) gives %d", a, b, c)
			}
		}
	}
	if Size(val("0(1 0(2 3))")) != 5 || Size(doubled(900)) != 129 || Size(wide(127)) != 128 || Size(wide(128)) != 129 || Size(wide(5000)) != 129 {
		t.Error("Size is wrong")
	}
}

// TestLeq checks P6.2, type by type.
func TestLeq(t *testing.T) {
	for _, x := range []struct {
		t    api.Type
		a, b string
		ok   bool
	}{
		{nat, "1", "1", true}, {nat, "2", "1", false}, {three, "1", "1", true}, {three, "0", "1", false},
		{product(nat, three), "0(1 2)", "0(3 2)", true}, {product(nat, three), "0(1 2)", "0(3 1)", false},
		{words(nat), "0(2 5)", "0(3 0 6)", true}, {words(nat), "0(2 5)", "0(6 3)", false}, {words(nat), "0", "0", true},
		{words(three), "0(0 2)", "0(0 1 2)", true}, {words(three), "0(2 0)", "0(0 1 2)", false},
		{bags(nat), "0(1 4)", "0(0 2 5)", true}, {bags(nat), "0(3 4)", "0(0 2 5)", false}, {bags(nat), "0(0 0)", "0(5)", false},
		{bags(three), "0(1 2)", "0(0 1 2)", true}, {bags(three), "0(1 1)", "0(0 1 2)", false}, {bags(product(three, three)), "0(0(1 1))", "0(0(0 1) 0(1 1))", true},
		{bags(bags(nat)), "0(0 0(1))", "0(0(0) 0(3))", true}, {bags(product(three, bags(three))), "0(0(0 0(1)))", "0(0(0 0(2)) 0(1 0(1)))", false},
		{trees, "0(1)", "0(0(1))", true}, {trees, "0(1 1)", "0(1)", false}, {falls, "0(1)", "0(0 1)", true}, {falls, "0(0)", "0(0 1)", false},
		{words(nat), "0(2)", "0(-1 2)", false}, {words(nat), "0(-1)", "0(2)", false}, {bags(nat), "0(1)", "0(2 1)", false}, {api.Type{}, "0", "0", false},
	} {
		if Leq(x.t, val(x.a), val(x.b)) != x.ok {
			t.Errorf("Leq(%v, %s, %s) is not %v", x.t, x.a, x.b, x.ok)
		}
	}
}

// some returns values of a type.
func some(t api.Type) []api.Value {
	var out []api.Value
	switch t.Kind {
	case api.TypeNat, api.TypeLabel:
		return []api.Value{val("0"), val("1"), val("2")}
	case api.TypeProduct:
		for _, a := range some(t.Parts[0])[:2] {
			for _, b := range some(t.Parts[1]) {
				out = append(out, api.Value{Kids: []api.Value{a, b}})
			}
		}
	case api.TypeWord, api.TypeBag:
		p := some(t.Parts[0])
		p = p[:min(4, len(p))]
		out = append(out, api.Value{})
		for _, a := range p {
			out = append(out, api.Value{Kids: []api.Value{a}})
			for _, b := range p {
				if t.Kind == api.TypeWord || Compare(a, b) <= 0 {
					out = append(out, api.Value{Kids: []api.Value{a, b}})
				}
			}
		}
	case api.TypeTree:
		return []api.Value{val("0"), val("1"), val("0(1)"), val("0(1 1)"), val("0(0(1))"), val("1(0 1)")}
	case api.TypePriority:
		return []api.Value{val("0"), val("0(0)"), val("0(1)"), val("0(0 0)"), val("0(0 1)"), val("0(1 0)"), val("0(1 1)"), val("0(0 1 0)")}
	}
	return out
}

// TestPartialOrder checks the consequences: Leq is a partial order, and Least values have nothing below them.
func TestPartialOrder(t *testing.T) {
	for _, x := range []api.Type{nat, three, trees, falls, product(nat, three), words(nat), words(three), bags(nat), bags(trees), words(product(nat, falls)), bags(product(three, bags(nat)))} {
		l := some(x)
		for _, a := range l {
			if !Leq(x, a, a) {
				t.Errorf("%v is not below itself", a)
			}
			other := false
			for _, b := range l {
				other = other || Compare(a, b) != 0 && Leq(x, b, a)
				if Compare(a, b) != 0 && Leq(x, a, b) && Leq(x, b, a) {
					t.Errorf("%v and %v are below each other", a, b)
				}
				for _, c := range l {
					if Leq(x, a, b) && Leq(x, b, c) && !Leq(x, a, c) {
						t.Errorf("%v, %v, %v: not transitive", a, b, c)
					}
				}
			}
			if Least(x, a) == other {
				t.Errorf("%v: Least of %v is %v", x, a, !other)
			}
		}
	}
	if Least(nat, val("-1")) || Least(api.Type{}, val("0")) || !Least(falls, val("0(1 0)")) || Least(falls, val("0(0 1)")) {
		t.Error("Least is wrong")
	}
}

// TestSorted checks P6.3: inner multisets first, and what is not valid.
func TestSorted(t *testing.T) {
	deep := bags(bags(nat))
	v := val("0(0(3 1) 0(1 2))")
	if s, e := Sorted(deep, v); e != api.OK || Compare(s, val("0(0(1 2) 0(1 3))")) != 0 {
		t.Errorf("Sorted gives %v, %d", s, e)
	}
	if Compare(v, val("0(0(3 1) 0(1 2))")) != 0 {
		t.Error("Sorted changes its argument")
	}
	if s, e := Sorted(words(nat), val("0(3 1)")); e != api.OK || Compare(s, val("0(3 1)")) != 0 {
		t.Errorf("Sorted of a word gives %v, %d", s, e)
	}
	for _, x := range []struct {
		t api.Type
		v api.Value
		e api.Errno
	}{{api.Type{}, val("0"), api.ErrType}, {bags(nat), val("0(-1)"), api.ErrValue}, {bags(nat), wide(13), api.ErrValue}, {product(nat), val("0(1 2 3)"), api.ErrValue},
		{nat, val("0(1)"), api.ErrValue}, {bags(nat), doubled(900), api.ErrValue}, {bags(trees), val("0(1 0)"), api.OK}} {
		if s, e := Sorted(x.t, x.v); e != x.e || e != api.OK && (s.N != 0 || len(s.Kids) > 0) {
			t.Errorf("Sorted of %v gives %v, %d", x.v, s, e)
		}
	}
}

// TestText checks P6.4: texts, and that nothing else is one.
func TestText(t *testing.T) {
	v := api.Value{Kids: []api.Value{{N: 3}, {Kids: []api.Value{{N: 1}, {N: -2}}}}}
	if s, e := Text(v); e != api.OK || s != "0(3 0(1 -2))" {
		t.Errorf("Text gives %q, %d", s, e)
	}
	if s, e := Text(wide(128)); e != api.ErrLimit || s != "" {
		t.Errorf("Text of 129 nodes gives %q, %d", s, e)
	}
	for _, s := range []string{"0", "-5", "9223372036854775807", "-9223372036854775808", "0(3 0(1 2))", "7(7)", "0" + strings.Repeat("(0", 127) + strings.Repeat(")", 127)} {
		v, e := Parse(s)
		if back, _ := Text(v); e != api.OK || back != s {
			t.Errorf("Parse of %q gives %v, %d", s, v, e)
		}
	}
	for _, s := range []string{"", " ", "x", "01", "-0", "+1", "--1", "0()", "0( 1)", "0(1 )", "0(1  2)", "0(1", "0(1))", "0 1", "(1)", "0(1,2)", "9223372036854775808", "1_0", "0x1", "0(1)2",
		"0" + strings.Repeat("(0", 128) + strings.Repeat(")", 128), strings.Repeat("0(", 2000), "0(1 2)\n"} {
		if v, e := Parse(s); e != api.ErrSyntax || len(v.Kids) > 0 || v.N != 0 {
			t.Errorf("Parse of %q gives %v, %d", s, v, e)
		}
	}
	if _, e := Parse(strings.Repeat("0", api.MaxText+1)); e != api.ErrLimit {
		t.Errorf("Parse of a long text gives %d", e)
	}
}

// TestMost checks P6.1 to P6.4: sizes at their limits.
func TestMost(t *testing.T) {
	for _, x := range []api.Type{{Kind: api.TypeLabel, Size: 1}, {Kind: api.TypeTree, Size: 1}, {Kind: api.TypeTree, Size: 16}, {Kind: api.TypePriority, Size: 1, Ranks: []int{5}}, {Kind: api.TypePriority, Size: 6, Ranks: make([]int, 6)}} {
		if Check(x) != api.OK || !Valid(x, api.Value{}) {
			t.Errorf("%v is not valid", x)
		}
	}
	// 1 + 9 * 13 + 10 nodes are as many as there may be.
	full := api.Value{}
	for range 9 {
		full.Kids = append(full.Kids, wide(12))
	}
	full.Kids = append(full.Kids, wide(9))
	ty := words(words(nat))
	if Size(full) != api.MaxSize || !Valid(ty, full) || !Leq(ty, full, full) || Least(ty, full) {
		t.Errorf("a value with %d nodes is not valid", Size(full))
	}
	if s, e := Sorted(ty, full); e != api.OK || Compare(s, full) != 0 {
		t.Errorf("Sorted gives %d", e)
	}
	text, e := Text(full)
	if back, e2 := Parse(text); e != api.OK || e2 != api.OK || Compare(back, full) != 0 {
		t.Errorf("Text gives %q, %d, Parse %d", text, e, e2)
	}
	full.Kids[9] = wide(10)
	if Valid(ty, full) || Leq(ty, full, full) || Leq(ty, val("0"), full) || Leq(ty, full, val("0")) {
		t.Error("a value with too many nodes is valid")
	}
	if _, e := Parse(strings.Repeat("0", api.MaxText)); e != api.ErrSyntax {
		t.Errorf("Parse gives %d", e)
	}
	wrong := product(nat, nat)
	for _, v := range []api.Value{val("0"), val("0(1)"), val("0(1 2 3)"), val("1(1 2)")} {
		if Leq(wrong, v, val("0(1 2)")) || Leq(wrong, val("0(0 0)"), v) || Leq(wrong, v, v) {
			t.Errorf("%v is compared", v)
		}
	}
}

// TestSortedParts checks P6.3: multisets in the parts of products and in words are sorted, too.
func TestSortedParts(t *testing.T) {
	ty := product(nat, bags(nat), words(bags(product(nat, bags(nat)))))
	s, e := Sorted(ty, val("0(7 0(3 1) 0(0(0(2 0(5 4)) 0(1 0(1 0)))))"))
	if e != api.OK || Compare(s, val("0(7 0(1 3) 0(0(0(1 0(0 1)) 0(2 0(4 5)))))")) != 0 {
		t.Errorf("Sorted gives %v, %d", s, e)
	}
}
