package nested

import (
	"testing"

	"coverability/api"
	"coverability/model"
	"coverability/order"
	"coverability/syntax"
	"coverability/values"
)

func parse(text string) api.Model {
	m, line, e := syntax.Parse(text)
	if e != api.OK {
		panic([]any{text, line, e})
	}
	return m
}

func val(s string) api.Value {
	v, e := order.Parse(s)
	if e != api.OK {
		panic(s)
	}
	return v
}

func vals(l ...string) []api.Value {
	var out []api.Value
	for _, s := range l {
		out = append(out, val(s))
	}
	return out
}

// deep has the letters l = 0 and k = 1.
func deep() api.Model {
	return parse(`model nested
states a b
letters l k
levels 2
rule relabel a -> b path l next k
rule child a -> a path l next l k
rule grow a -> a next k
rule chain a -> a next k l
rule inner a -> a path l k next l l
rule cut a -> a path l k next k
rule remove a -> a path l
rule drop a -> a path l k
start 0(0 0)`)
}

func flat() api.Model {
	return parse("model nested\nstates a\nletters l k\nlevels 1\nrule r a -> a path l next k\nrule s a -> a next l\nrule t a -> a path k\nstart 0(0 0)")
}

// TestApply checks P19.1 by hand.
func TestApply(t *testing.T) {
	c := "0(0 0(0(0 0(0 1)) 0(0 0(1)) 0(1 0(1))))"
	for _, x := range []struct {
		m    api.Model
		rule int
		c    string
		want []api.Value
		e    api.Errno
	}{
		{deep(), 0, c, vals("0(1 0(0(0 0(0 1)) 0(1 0(1)) 0(1 0(1))))", "0(1 0(0(0 0(1)) 0(1 0(0 1)) 0(1 0(1))))"), api.OK},
		{deep(), 1, c, vals("0(0 0(0(0 0(0 1)) 0(0 0(1 1)) 0(1 0(1))))", "0(0 0(0(0 0(1)) 0(0 0(0 1 1)) 0(1 0(1))))"), api.OK},
		{deep(), 2, c, vals("0(0 0(0(0 0(1)) 0(0 0(0 1)) 0(1 0) 0(1 0(1))))"), api.OK},
		{deep(), 3, "0(0 0)", vals("0(0 0(0(1 0(0))))"), api.OK},
		{deep(), 4, c, vals("0(0 0(0(0 0(0)) 0(0 0(0 1)) 0(1 0(1))))", "0(0 0(0(0 0(1)) 0(0 0(0 0)) 0(1 0(1))))"), api.OK},
		{deep(), 5, c, vals("0(0 0(0(0 0(0 1)) 0(1 0) 0(1 0(1))))", "0(0 0(0(0 0(1)) 0(1 0(0)) 0(1 0(1))))"), api.OK},
		{deep(), 6, c, vals("0(0 0(0(0 0(0 1)) 0(1 0(1))))", "0(0 0(0(0 0(1)) 0(1 0(1))))"), api.OK},
		{deep(), 7, "0(0 0(0(0 0) 0(0 0(1))))", vals("0(0 0(0(0 0)))"), api.OK}, {deep(), 7, "0(0 0(0(0 0) 0(1 0(1))))", nil, api.OK}, {deep(), 0, "0(1 0(0(0 0)))", nil, api.OK},
		{deep(), 1, "0(0 0(0(0 0) 0(0 0)))", vals("0(0 0(0(0 0) 0(0 0(1))))"), api.OK},
		{flat(), 0, "0(0 0(0 0 1))", vals("0(0 0(0 1 1))"), api.OK}, {flat(), 1, "0(0 0(1))", vals("0(0 0(0 1))"), api.OK}, {flat(), 2, "0(0 0(0 1))", vals("0(0 0(0))"), api.OK}, {flat(), 2, "0(0 0(0))", nil, api.OK},
		{flat(), 1, "0(0 0(0 0 0 0 0 0 0 0 0 0 0 0))", nil, api.ErrLimit}, {flat(), 0, "0(0 0(0 0 0 0 0 0 0 0 0 0 0 0))", vals("0(0 0(0 0 0 0 0 0 0 0 0 0 0 1))"), api.OK},
		{deep(), 8, "0", nil, api.ErrRule}, {deep(), -1, "0", nil, api.ErrRule}, {deep(), 0, "0", nil, api.ErrConfig}, {deep(), 0, "0(0 0(0(1 0) 0(0 0)))", nil, api.ErrConfig},
	} {
		for i := range x.want {
			ty, _ := model.Type(x.m)
			x.want[i], _ = order.Sorted(ty, x.want[i])
		}
		want := values.Ascending(x.want)
		c := val(x.c)
		if ty, _ := model.Type(x.m); x.e == api.OK {
			c, _ = order.Sorted(ty, c)
		}
		if l, e := Apply(x.m, x.rule, c); e != x.e || !values.SameLists(l, want) {
			t.Errorf("Apply(%d, %s) gives %v, %d and not %v", x.rule, x.c, l, e, want)
		}
	}
	counter := parse("model counter\nstates a\nplaces x\nstart 0(0 0)")
	if _, e := Apply(counter, 9, api.Value{}); e != api.ErrKind {
		t.Errorf("Apply gives %d", e)
	}
	if _, e := Count(counter, api.Value{}, make([]int, 9)); e != api.ErrKind {
		t.Errorf("Count gives %d", e)
	}
}

// TestTooLarge checks P19.1: a value with too many nodes.
func TestTooLarge(t *testing.T) {
	c := api.Value{Kids: []api.Value{{}, {}}}
	for range 12 {
		c.Kids[1].Kids = append(c.Kids[1].Kids, api.Value{Kids: []api.Value{{}, {Kids: make([]api.Value, 7)}}})
	}
	c.Kids[1].Kids[0].Kids[1].Kids = make([]api.Value, 7)
	if order.Size(c) != 3+12*10 || !model.Valid(deep(), c) {
		t.Fatalf("the size is %d", order.Size(c))
	}
	for i := range 5 {
		last := &c.Kids[1].Kids[11-i].Kids[1]
		last.Kids = append(last.Kids, api.Value{})
	}
	if !model.Valid(deep(), c) || order.Size(c) != api.MaxSize {
		t.Fatalf("the size is %d", order.Size(c))
	}
	if l, e := Apply(deep(), 1, c); e != api.ErrLimit || l != nil {
		t.Errorf("Apply gives %v, %d", l, e)
	}
	if l, e := Apply(deep(), 2, c); e != api.ErrLimit || l != nil {
		t.Errorf("Apply gives %v, %d", l, e)
	}
}

// TestCount checks P19.2.
func TestCount(t *testing.T) {
	c := val("0(0 0(0(0 0(0 1)) 0(0 0(1 1)) 0(1 0(1))))")
	for _, x := range []struct {
		path []int
		n    int
		e    api.Errno
	}{{nil, 1, api.OK}, {[]int{0}, 2, api.OK}, {[]int{1}, 1, api.OK}, {[]int{0, 1}, 3, api.OK}, {[]int{0, 0}, 1, api.OK}, {[]int{1, 0}, 0, api.OK}, {[]int{-1}, 0, api.OK}, {[]int{0, 0, 0}, 0, api.ErrLength}} {
		if n, e := Count(deep(), c, x.path); n != x.n || e != x.e {
			t.Errorf("Count(%v) gives %d, %d", x.path, n, e)
		}
	}
	if _, e := Count(deep(), val("0"), make([]int, 9)); e != api.ErrConfig {
		t.Errorf("Count gives %d", e)
	}
}

// TestMonotone checks the consequences: a greater configuration can do as much, and more paths are there.
func TestMonotone(t *testing.T) {
	m := deep()
	ty, _ := model.Type(m)
	nodes := vals("0(0 0)", "0(1 0)", "0(0 0(0))", "0(0 0(1))", "0(1 0(1))", "0(0 0(0 1))")
	var all []api.Value
	for i := range nodes {
		for j := range nodes {
			v, _ := order.Sorted(ty, api.Value{Kids: []api.Value{{}, {Kids: []api.Value{nodes[i], nodes[j]}}}})
			all = append(all, v, api.Value{Kids: []api.Value{{}, {Kids: nodes[i : i+1]}}})
		}
	}
	for _, a := range all {
		for _, b := range all {
			if !order.Leq(ty, a, b) {
				continue
			}
			for rule := range m.Rules {
				small, _ := Apply(m, rule, a)
				large, _ := Apply(m, rule, b)
				for _, x := range small {
					found := false
					for _, y := range large {
						found = found || order.Leq(ty, x, y)
					}
					if !found {
						t.Fatalf("rule %d leads from %v to %v, but from %v to %v", rule, a, x, b, large)
					}
				}
			}
			for _, p := range [][]int{{0}, {1}, {0, 1}} {
				n, _ := Count(m, a, p)
				if k, _ := Count(m, b, p); k < n {
					t.Errorf("%v has more paths than %v", a, b)
				}
			}
		}
	}
}
