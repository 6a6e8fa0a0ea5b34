package timed

import (
	"fmt"
	"testing"

	"coverability/api"
	"coverability/model"
	"coverability/order"
	"coverability/syntax"
	"coverability/values"
)

func parse(text string) api.Model {
	m, line, e := syntax.Parse(text)
	if e != api.OK {
		panic([]any{text, line, e})
	}
	return m
}

func val(s string) api.Value {
	v, e := order.Parse(s)
	if e != api.OK {
		panic(s)
	}
	return v
}

func sample() api.Model {
	return parse(`model timed
states a b
places x y
age 2
rule old a -> b take x 2 3 make y
rule two a -> a take x 0 3 take x 0 1
rule free a -> a make x make x make y
rule idle b -> a
start 0(0 0)`)
}

// made returns a configuration with tokens, each a place and an age.
func made(state int, l ...[2]int) api.Value {
	m := sample()
	v, e := config(m, state, l)
	if e != api.OK {
		panic(l)
	}
	return v
}

// TestApply checks P20.1 by hand.
func TestApply(t *testing.T) {
	full := make([][2]int, 12)
	c := made(0, [2]int{0, 0}, [2]int{0, 1}, [2]int{0, 3}, [2]int{1, 2})
	for _, x := range []struct {
		rule int
		c    api.Value
		want []api.Value
		e    api.Errno
	}{
		{0, c, []api.Value{made(1, [2]int{0, 0}, [2]int{0, 1}, [2]int{1, 0}, [2]int{1, 2})}, api.OK},
		{1, c, []api.Value{made(0, [2]int{0, 0}, [2]int{1, 2}), made(0, [2]int{0, 1}, [2]int{1, 2}), made(0, [2]int{0, 3}, [2]int{1, 2})}, api.OK},
		{1, made(0, [2]int{0, 0}), nil, api.OK}, {1, made(0, [2]int{0, 1}, [2]int{0, 1}, [2]int{0, 1}), []api.Value{made(0, [2]int{0, 1})}, api.OK}, {1, made(0, [2]int{0, 2}, [2]int{0, 2}), nil, api.OK},
		{2, made(0), []api.Value{made(0, [2]int{0, 0}, [2]int{0, 0}, [2]int{1, 0})}, api.OK}, {3, c, nil, api.OK}, {3, made(1, full...), []api.Value{made(0, full...)}, api.OK}, {2, made(1, full...), nil, api.OK},
		{2, made(0, full...), nil, api.ErrLimit}, {2, made(0, full[:10]...), nil, api.ErrLimit}, {2, made(0, full[:9]...), []api.Value{made(0, append(full[:11:11], [2]int{1, 0})...)}, api.OK},
		{0, made(0, [2]int{0, 1}, [2]int{1, 2}), nil, api.OK}, {4, val("0"), nil, api.ErrRule}, {-1, val("0"), nil, api.ErrRule}, {0, val("0"), nil, api.ErrConfig}, {0, val("0(0 0(0(0 4)))"), nil, api.ErrConfig},
	} {
		if l, e := Apply(sample(), x.rule, x.c); e != x.e || !values.SameLists(l, values.Ascending(x.want)) {
			t.Errorf("Apply(%d, %v) gives %v, %d and not %v", x.rule, x.c, l, e, x.want)
		}
	}
}

// TestTick checks P20.2, and the errors of models.
func TestTick(t *testing.T) {
	c := made(1, [2]int{0, 0}, [2]int{0, 3}, [2]int{1, 2}, [2]int{0, 2}, [2]int{0, 2})
	if d, e := Tick(sample(), c); e != api.OK || !values.Same(d, made(1, [2]int{0, 1}, [2]int{0, 3}, [2]int{0, 3}, [2]int{0, 3}, [2]int{1, 3})) {
		t.Errorf("Tick gives %v, %d", d, e)
	}
	if l, e := Tokens(sample(), c); e != api.OK || fmt.Sprint(l) != "[[0 0] [0 2] [0 2] [0 3] [1 2]]" {
		t.Errorf("Tokens gives %v, %d", l, e)
	}
	if d, e := Tick(sample(), made(0)); e != api.OK || !values.Same(d, made(0)) {
		t.Errorf("Tick of no tokens gives %v, %d", d, e)
	}
	counter := parse("model counter\nstates a\nplaces x\nstart 0(0 0)")
	for _, x := range []struct {
		m api.Model
		c api.Value
		e api.Errno
	}{{counter, val("0(0 0)"), api.ErrKind}, {api.Model{Kind: 5}, val("0"), api.ErrLimit}, {sample(), val("0(0 0(0(0 1) 0(0 0)))"), api.ErrConfig}} {
		_, e1 := Tick(x.m, x.c)
		_, e2 := Tokens(x.m, x.c)
		_, e3 := Apply(x.m, 0, x.c)
		if e1 != x.e || e2 != x.e || e3 != x.e && !(e3 == api.ErrRule) {
			t.Errorf("errors %d, %d, %d", e1, e2, e3)
		}
	}
	if _, e := Apply(counter, 9, val("0")); e != api.ErrKind {
		t.Errorf("Apply gives %d", e)
	}
}

// TestMonotone checks the consequences: greater configurations can do as much.
func TestMonotone(t *testing.T) {
	m := sample()
	ty, _ := model.Type(m)
	var all []api.Value
	for n := range 64 {
		a, b, c := [2]int{n & 1, n >> 1 & 1}, [2]int{0, 1 + n>>2&1}, [2]int{n >> 3 & 1, n >> 4 & 3}
		all = append(all, made(0, a, b, c), made(0, a, b), made(0, c))
	}
	for _, a := range all {
		for _, b := range all {
			if !order.Leq(ty, a, b) {
				continue
			}
			x, _ := Tick(m, a)
			if y, _ := Tick(m, b); !order.Leq(ty, x, y) {
				t.Errorf("ticks of %v and %v", a, b)
			}
			for rule := range m.Rules {
				small, _ := Apply(m, rule, a)
				large, _ := Apply(m, rule, b)
				for _, x := range small {
					found := false
					for _, y := range large {
						found = found || order.Leq(ty, x, y)
					}
					if !found {
						t.Fatalf("rule %d leads from %v to %v, but from %v to %v", rule, a, x, b, large)
					}
				}
			}
		}
	}
}
