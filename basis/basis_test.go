package basis

import (
	"slices"
	"testing"

	"coverability/api"
	"coverability/order"
)

var (
	nat   = api.Type{Kind: api.TypeNat}
	two   = api.Type{Kind: api.TypeLabel, Size: 2}
	eight = api.Type{Kind: api.TypeLabel, Size: 8}
	trees = api.Type{Kind: api.TypeTree, Size: 2}
	pair  = product(nat, nat)
)

func product(parts ...api.Type) api.Type { return api.Type{Kind: api.TypeProduct, Parts: parts} }
func words(p api.Type) api.Type          { return api.Type{Kind: api.TypeWord, Parts: []api.Type{p}} }
func bags(p api.Type) api.Type           { return api.Type{Kind: api.TypeBag, Parts: []api.Type{p}} }

func val(s string) api.Value {
	v, e := order.Parse(s)
	if e != api.OK {
		panic(s)
	}
	return v
}

func vals(l ...string) []api.Value {
	var out []api.Value
	for _, s := range l {
		out = append(out, val(s))
	}
	return out
}

func same(a, b []api.Value) bool {
	return slices.EqualFunc(a, b, func(x, y api.Value) bool { return order.Compare(x, y) == 0 })
}

// chain returns n pairs of numbers that are a basis.
func chain(n int) []api.Value {
	var out []api.Value
	for i := range n {
		out = append(out, api.Value{Kids: []api.Value{{N: i}, {N: 1000 - i}}})
	}
	return out
}

// TestCheck checks P7.1: the errors of a basis, in order.
func TestCheck(t *testing.T) {
	for _, x := range []struct {
		t api.Type
		b []api.Value
		e api.Errno
	}{
		{pair, nil, api.OK}, {pair, vals("0(1 3)", "0(2 1)"), api.OK}, {pair, chain(256), api.OK}, {pair, chain(257), api.ErrLimit},
		{api.Type{}, chain(257), api.ErrType}, {pair, vals("0(2 1)", "0(1 3)"), api.ErrOrder}, {pair, vals("0(1 1)", "0(1 1)"), api.ErrOrder},
		{pair, vals("0(2 1)", "0(1 3)", "5"), api.ErrOrder}, {pair, vals("0(2 1)", "5", "0(1 3)"), api.ErrValue},
		{pair, vals("0(1 1)", "0(1 2)"), api.ErrBasis}, {trees, vals("0(1)", "1"), api.ErrBasis}, {trees, vals("0(0)", "1"), api.OK},
	} {
		if e := Check(x.t, x.b); e != x.e {
			t.Errorf("Check of %v gives %d", x.b, e)
		}
	}
}

// TestMinimise checks P7.1: minimal values, and errors.
func TestMinimise(t *testing.T) {
	if b, e := Minimise(pair, vals("0(2 1)", "0(1 3)", "0(2 2)", "0(2 1)")); e != api.OK || !same(b, vals("0(1 3)", "0(2 1)")) {
		t.Errorf("Minimise gives %v, %d", b, e)
	}
	if b, e := Minimise(trees, vals("0(1)", "1", "0(0)")); e != api.OK || !same(b, vals("0(0)", "1")) {
		t.Errorf("Minimise of trees gives %v, %d", b, e)
	}
	if _, e := Minimise(api.Type{}, nil); e != api.ErrType {
		t.Errorf("Minimise without a type gives %d", e)
	}
	if _, e := Minimise(pair, append(chain(257), val("3"))); e != api.ErrValue {
		t.Errorf("Minimise of no value gives %d", e)
	}
	if _, e := Minimise(pair, chain(257)); e != api.ErrLimit {
		t.Errorf("Minimise of many gives %d", e)
	}
	if b, e := Minimise(pair, append(chain(300), val("0(0 0)"))); e != api.OK || !same(b, vals("0(0 0)")) {
		t.Errorf("Minimise of many above one gives %v, %d", b, e)
	}
}

// TestInsert checks P7.2: Has, Insert, Union and Subset.
func TestInsert(t *testing.T) {
	b := vals("0(1 3)", "0(2 1)")
	if !Has(pair, b, val("0(1 4)")) || Has(pair, b, val("0(1 2)")) || Has(pair, b, val("7")) || Has(pair, vals("0(2 1)", "0(1 3)"), val("0(9 9)")) {
		t.Error("Has is wrong")
	}
	for _, x := range []struct {
		v    string
		want []api.Value
		ok   bool
	}{
		{"0(2 2)", b, false}, {"0(1 3)", b, false}, {"0(0 9)", vals("0(0 9)", "0(1 3)", "0(2 1)"), true},
		{"0(1 1)", vals("0(1 1)"), true}, {"0(2 0)", vals("0(1 3)", "0(2 0)"), true}, {"0(9 0)", vals("0(1 3)", "0(2 1)", "0(9 0)"), true},
	} {
		if got, ok, e := Insert(pair, b, val(x.v)); e != api.OK || ok != x.ok || !same(got, x.want) {
			t.Errorf("Insert of %s gives %v, %v, %d", x.v, got, ok, e)
		}
	}
	if got, ok, e := Insert(pair, vals("0(2 1)", "0(1 3)"), val("7")); e != api.ErrOrder || ok || got != nil {
		t.Errorf("Insert into no basis gives %v, %v, %d", got, ok, e)
	}
	if _, ok, e := Insert(pair, b, val("7")); e != api.ErrValue || ok {
		t.Errorf("Insert of no value gives %v, %d", ok, e)
	}
	if got, ok, e := Insert(pair, chain(256), val("0(256 0)")); e != api.ErrLimit || ok || got != nil {
		t.Errorf("Insert of one too many gives %v, %d", ok, e)
	}
	if u, e := Union(pair, b, vals("0(0 4)", "0(2 0)")); e != api.OK || !same(u, vals("0(0 4)", "0(1 3)", "0(2 0)")) {
		t.Errorf("Union gives %v, %d", u, e)
	}
	if _, e := Union(pair, chain(256), vals("0(256 0)")); e != api.ErrLimit {
		t.Errorf("Union of many gives %d", e)
	}
	if _, e := Union(pair, vals("7"), vals("0(2 1)", "0(1 3)")); e != api.ErrValue {
		t.Errorf("Union gives %d", e)
	}
	if _, e := Union(pair, b, vals("0(2 1)", "0(1 3)")); e != api.ErrOrder {
		t.Errorf("Union gives %d", e)
	}
	if !Subset(pair, vals("0(1 4)", "0(5 1)"), b) || Subset(pair, b, vals("0(1 4)", "0(5 1)")) || !Subset(pair, nil, nil) || Subset(pair, nil, vals("7")) || Subset(pair, vals("7"), b) {
		t.Error("Subset is wrong")
	}
}

// TestMeet checks P7.3: meets and errors.
func TestMeet(t *testing.T) {
	for _, x := range []struct {
		t    api.Type
		a, b string
		want []api.Value
		e    api.Errno
	}{
		{nat, "2", "5", vals("5"), api.OK}, {two, "1", "1", vals("1"), api.OK}, {two, "0", "1", nil, api.OK},
		{words(two), "0(0)", "0(1)", vals("0(0 1)", "0(1 0)"), api.OK}, {words(nat), "0(2)", "0(5)", vals("0(5)"), api.OK},
		{words(nat), "0(2 7)", "0(5)", vals("0(2 7)"), api.OK},
		{product(two, words(two)), "0(0 0(0))", "0(1 0(1))", nil, api.OK}, {words(product(two, nat)), "0(0(0 3))", "0(0(0 1))", vals("0(0(0 3))"), api.OK},
		{bags(nat), "0", "0", nil, api.ErrKind}, {trees, "0", "0", nil, api.ErrKind}, {words(words(nat)), "9", "0", nil, api.ErrKind},
		{product(nat, api.Type{Kind: api.TypePriority, Size: 1, Ranks: []int{0}}), "0", "0", nil, api.ErrKind},
		{api.Type{}, "0", "0", nil, api.ErrType}, {nat, "0", "-1", nil, api.ErrValue}, {nat, "-1", "1", nil, api.ErrValue},
		{words(two), "0(0 0 0 0 0)", "0(1 1 1 1)", nil, api.ErrLimit}, {product(two, words(nat)), "0(0 0(0 0 0 0 0))", "0(1 0(0 0 0 0))", nil, api.ErrLimit},
		{product(words(eight), words(eight)), "0(0(0 1 2 3) 0(0 1 2 3))", "0(0(4 5 6 7) 0(4 5 6 7))", nil, api.ErrLimit},
		{product(words(eight), words(eight), two), "0(0(0 1 2 3) 0(0 1 2 3) 0)", "0(0(4 5 6 7) 0(4 5 6 7) 1)", nil, api.OK},
		{product(product(words(eight), words(eight)), two), "0(0(0(0 1 2 3) 0(0 1 2 3)) 0)", "0(0(0(4 5 6 7) 0(4 5 6 7)) 1)", nil, api.OK},
	} {
		if m, e := Meet(x.t, val(x.a), val(x.b)); e != x.e || !same(m, x.want) {
			t.Errorf("Meet(%s, %s) gives %v, %d", x.a, x.b, m, e)
		}
	}
	if m, e := Meet(words(eight), val("0(0 1 2 3)"), val("0(4 5 6 7)")); e != api.OK || len(m) != 70 {
		t.Errorf("Meet gives %d words, %d", len(m), e)
	}
	// Eight words of words' places make a value with too many nodes.
	long := product(words(nat), words(nat), words(nat), words(nat), words(nat), words(nat), words(nat), words(nat))
	deep := product(long, long)
	half := func(first bool) api.Value {
		full := api.Value{Kids: make([]api.Value, 8)}
		for i := range full.Kids {
			full.Kids[i].Kids = make([]api.Value, 7)
		}
		none := api.Value{Kids: make([]api.Value, 8)}
		if first {
			return api.Value{Kids: []api.Value{full, none}}
		}
		return api.Value{Kids: []api.Value{none, full}}
	}
	if m, e := Meet(deep, half(true), half(false)); e != api.ErrLimit || m != nil {
		t.Errorf("Meet of a value that is too large gives %v, %d", m, e)
	}
}

// values returns all values of a small type with numbers below n and words up to 3 letters.
func values(t api.Type, n int) []api.Value {
	var out []api.Value
	switch t.Kind {
	case api.TypeNat, api.TypeLabel:
		if t.Kind == api.TypeLabel {
			n = t.Size
		}
		for i := range n {
			out = append(out, api.Value{N: i})
		}
	case api.TypeProduct:
		out = []api.Value{{}}
		for _, p := range t.Parts {
			var next []api.Value
			for _, v := range out {
				for _, k := range values(p, n) {
					next = append(next, api.Value{Kids: append(slices.Clone(v.Kids), k)})
				}
			}
			out = next
		}
	case api.TypeWord:
		out = []api.Value{{}}
		for i := 0; i < len(out); i++ {
			for _, k := range values(t.Parts[0], n) {
				if len(out[i].Kids) < 4 {
					out = append(out, api.Value{Kids: append(slices.Clone(out[i].Kids), k)})
				}
			}
		}
	}
	return out
}

// TestSets checks P7.2, P7.3 and the consequences for small sets, against their values.
func TestSets(t *testing.T) {
	for _, x := range []struct {
		t    api.Type
		a, b []api.Value
	}{
		{pair, vals("0(0 2)", "0(1 1)"), vals("0(0 1)", "0(2 0)")},
		{words(two), vals("0(0 1)", "0(1 1)"), vals("0(0 0)", "0(1 0)")},
		{words(nat), vals("0(0 1)", "0(2)"), vals("0(1 0)")},
		{product(two, words(two)), vals("0(0 0(1))", "0(1 0(0))"), vals("0(0 0(0))", "0(1 0(1 1))")},
		{words(product(two, nat)), vals("0(0(0 1))"), vals("0(0(0 0) 0(1 0))", "0(0(1 1))")},
	} {
		a, _ := Minimise(x.t, x.a)
		b, _ := Minimise(x.t, x.b)
		u, e1 := Union(x.t, a, b)
		m, e2 := Intersect(x.t, a, b)
		if e1 != api.OK || e2 != api.OK || Check(x.t, u) != api.OK || Check(x.t, m) != api.OK {
			t.Fatalf("Union gives %v, %d, Intersect %v, %d", u, e1, m, e2)
		}
		if !Subset(x.t, m, a) || !Subset(x.t, a, u) || Subset(x.t, u, m) {
			t.Errorf("Subset disagrees for %v and %v", a, b)
		}
		for _, v := range values(x.t, 3) {
			inA, inB := Has(x.t, a, v), Has(x.t, b, v)
			if Has(x.t, u, v) != (inA || inB) || Has(x.t, m, v) != (inA && inB) {
				t.Errorf("%v is wrong in Union or Intersect of %v and %v", v, a, b)
			}
		}
		for i := range a {
			got := slices.Clone(b)
			for j := range a {
				got, _, _ = Insert(x.t, got, a[(i+j)%len(a)])
			}
			if !same(got, u) {
				t.Errorf("Insert in another order gives %v and not %v", got, u)
			}
		}
	}
	if m, e := Intersect(bags(nat), nil, vals("0(1)")); e != api.OK || len(m) > 0 {
		t.Errorf("Intersect with nothing gives %v, %d", m, e)
	}
	if _, e := Intersect(bags(nat), vals("0(1)"), vals("0(1)")); e != api.ErrKind {
		t.Errorf("Intersect of multisets gives %d", e)
	}
	if _, e := Intersect(nat, vals("3", "4"), vals("-1")); e != api.ErrBasis {
		t.Errorf("Intersect gives %d", e)
	}
	if _, e := Intersect(nat, vals("3"), vals("-1")); e != api.ErrValue {
		t.Errorf("Intersect gives %d", e)
	}
	var left, right []api.Value
	for i := range 17 {
		left = append(left, api.Value{Kids: []api.Value{{N: i}, {N: 16 - i}, {}, {}}})
		right = append(right, api.Value{Kids: []api.Value{{}, {}, {N: i}, {N: 16 - i}}})
	}
	slices.SortFunc(right, order.Compare)
	if m, e := Intersect(product(nat, nat, nat, nat), left, right); e != api.ErrLimit || m != nil {
		t.Errorf("Intersect of many gives %d values, %d", len(m), e)
	}
	var wide, high []api.Value
	for i := range 256 {
		wide = append(wide, api.Value{Kids: []api.Value{{N: i}, {N: 255 - i}, {}, {}}})
		high = append(high, api.Value{Kids: []api.Value{{}, {}, {N: i}, {N: 255 - i}}})
	}
	if m, e := Intersect(product(nat, nat, nat, nat), wide, high); e != api.ErrLimit || m != nil {
		t.Errorf("Intersect of very many gives %d values, %d", len(m), e)
	}
	if m, e := Intersect(product(nat, nat, nat, nat), left[1:], right[1:]); e != api.OK || len(m) != 256 {
		t.Errorf("Intersect of 16 and 16 gives %d values, %d", len(m), e)
	}
}

// TestMeetMost checks P7.3: as many values as there may be, and too many in a part.
func TestMeetMost(t *testing.T) {
	w := words(two)
	a, b := api.Value{}, api.Value{}
	for range 8 {
		a.Kids = append(a.Kids, val("0(0)"))
		b.Kids = append(b.Kids, val("0(1)"))
	}
	if m, e := Meet(product(w, w, w, w, w, w, w, w), a, b); e != api.OK || len(m) != 256 {
		t.Errorf("Meet gives %d values, %d", len(m), e)
	}
	a.Kids[7] = val("0(0 0)")
	if m, e := Meet(product(w, w, w, w, w, w, w, w), a, b); e != api.ErrLimit || m != nil {
		t.Errorf("Meet gives %d values, %d", len(m), e)
	}
	inner := product(product(words(eight), words(eight)), two)
	if m, e := Meet(inner, val("0(0(0(0 1 2 3) 0(0 1 2 3)) 0)"), val("0(0(0(4 5 6 7) 0(4 5 6 7)) 0)")); e != api.ErrLimit || m != nil {
		t.Errorf("Meet gives %d values, %d", len(m), e)
	}
}
