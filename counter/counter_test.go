package counter

import (
	"math/rand"
	"slices"
	"testing"

	"coverability/api"
	"coverability/order"
	"coverability/syntax"
	"coverability/values"
)

func parse(text string) api.Model {
	m, line, e := syntax.Parse(text)
	if e != api.OK {
		panic([]any{text, line, e})
	}
	return m
}

func val(s string) api.Value {
	v, e := order.Parse(s)
	if e != api.OK {
		panic(s)
	}
	return v
}

func sample() api.Model {
	return parse(`model counter
states a b
places x y
rule r a -> b need x 1 give x 1 move x y move y y
rule s a -> a need x 2 give y 3
rule t b -> a empty x move y x
rule u a -> a give y 1 move x x move y y
start 0(0 0 0)`)
}

func plain() api.Model {
	return parse("model counter\nstates a b\nplaces x y\nrule r a -> b need x 2 give x 1 give y 3\nrule s b -> b need y 1 give x 1\nstart 0(0 0 0)")
}

// TestApply checks P17.1 by hand.
func TestApply(t *testing.T) {
	m := sample()
	for _, x := range []struct {
		rule    int
		c, want string
		e       api.Errno
	}{
		{0, "0(0 3 2)", "0(1 1 4)", api.OK}, {0, "0(1 3 2)", "", api.ErrBlocked}, {0, "0(0 0 2)", "", api.ErrBlocked}, {1, "0(0 2 0)", "0(0 0 3)", api.OK}, {1, "0(0 1 0)", "", api.ErrBlocked},
		{2, "0(1 5 7)", "0(0 7 0)", api.OK}, {3, "0(0 0 1048575)", "0(0 0 1048576)", api.OK}, {3, "0(0 0 1048576)", "", api.ErrLimit}, {0, "0(0 2 1048576)", "", api.ErrLimit},
		{4, "0(0 0)", "", api.ErrRule}, {-1, "0(0 0 0)", "", api.ErrRule}, {0, "0(0 0)", "", api.ErrConfig}, {0, "0(2 0 0)", "", api.ErrConfig},
	} {
		c, e := Apply(m, x.rule, val(x.c))
		if e != x.e || e == api.OK && !values.Same(c, val(x.want)) || e != api.OK && len(c.Kids) > 0 {
			t.Errorf("Apply(%d, %s) gives %v, %d", x.rule, x.c, c, e)
		}
		ok, e := Enabled(m, x.rule, val(x.c))
		if blocked := x.e == api.ErrBlocked; ok != (x.e == api.OK || x.e == api.ErrLimit) || e != x.e && !blocked && x.e != api.ErrLimit {
			t.Errorf("Enabled(%d, %s) gives %v, %d", x.rule, x.c, ok, e)
		}
	}
	if _, e := Apply(api.Model{}, 0, val("0")); e != api.ErrKind {
		t.Errorf("Apply gives %d", e)
	}
	branching := parse("model branching\nstates a\nplaces x")
	if _, e := Enabled(branching, 9, val("0")); e != api.ErrKind {
		t.Errorf("Enabled gives %d", e)
	}
}

// TestEffect checks P17.2.
func TestEffect(t *testing.T) {
	m := plain()
	for _, x := range []struct {
		rules        []int
		need, effect []int
		e            api.Errno
	}{
		{nil, []int{0, 0}, []int{0, 0}, api.OK}, {[]int{0}, []int{2, 0}, []int{-1, 3}, api.OK}, {[]int{0, 0}, []int{3, 0}, []int{-2, 6}, api.OK}, {[]int{1, 1, 0}, []int{0, 2}, []int{1, 1}, api.OK},
		{[]int{0, 1, 1, 1, 1}, []int{2, 1}, []int{3, -1}, api.OK}, {[]int{2}, nil, nil, api.ErrRule}, {[]int{0, -1}, nil, nil, api.ErrRule}, {slices.Repeat([]int{7}, 65), nil, nil, api.ErrLimit},
		{slices.Repeat([]int{1}, 64), []int{0, 64}, []int{64, -64}, api.OK},
	} {
		if need, effect, e := Effect(m, x.rules); e != x.e || !slices.Equal(need, x.need) || !slices.Equal(effect, x.effect) {
			t.Errorf("Effect(%v) gives %v, %v, %d", x.rules, need, effect, e)
		}
	}
	if _, _, e := Effect(sample(), []int{9}); e != api.ErrKind {
		t.Errorf("Effect with Moves gives %d", e)
	}
	if _, _, e := Effect(parse("model branching\nstates a\nplaces x"), nil); e != api.ErrKind {
		t.Errorf("Effect gives %d", e)
	}
}

// TestLaws checks the consequences: greater configurations can do more, and Effect says what is needed.
func TestLaws(t *testing.T) {
	m := sample()
	for rule := range m.Rules {
		for state := range 2 {
			for x := range 4 {
				for y := range 4 {
					c, d := values.Counter(state, []int{x, y}), values.Counter(state, []int{x + 1, y + 2})
					small, e1 := Apply(m, rule, c)
					large, e2 := Apply(m, rule, d)
					if e1 == api.OK && (e2 != api.OK || large.Kids[1].N < small.Kids[1].N || large.Kids[2].N < small.Kids[2].N) {
						t.Errorf("rule %d leads from %v to %v, but from %v to %v", rule, c, small, d, large)
					}
				}
			}
		}
	}
	p := parse("model counter\nstates a\nplaces x y\nrule r a -> a need x 2 give x 1 give y 3\nrule s a -> a need y 1 give x 1\nrule t a -> a need x 1 need y 2\nstart 0(0 0 0)")
	r := rand.New(rand.NewSource(1))
	for range 300 {
		var rules []int
		for range r.Intn(6) {
			rules = append(rules, r.Intn(3))
		}
		need, effect, _ := Effect(p, rules)
		for x := range 8 {
			for y := range 8 {
				c, e := values.Counter(0, []int{x, y}), api.OK
				for _, rule := range rules {
					if e == api.OK {
						c, e = Apply(p, rule, c)
					}
				}
				if (e == api.OK) != (x >= need[0] && y >= need[1]) || e == api.OK && (c.Kids[1].N != x+effect[0] || c.Kids[2].N != y+effect[1]) {
					t.Fatalf("%v from %d, %d: need %v, effect %v", rules, x, y, need, effect)
				}
			}
		}
	}
}
