package predecessor

import (
	"slices"
	"testing"

	"coverability/api"
	"coverability/basis"
	"coverability/model"
	"coverability/order"
	"coverability/step"
	"coverability/syntax"
	"coverability/values"
)

func parse(text string) api.Model {
	m, line, e := syntax.Parse(text)
	if e != api.OK {
		panic([]any{text, line, e})
	}
	return m
}

func val(s string) api.Value {
	v, e := order.Parse(s)
	if e != api.OK {
		panic(s)
	}
	return v
}

func vals(l ...string) []api.Value {
	var out []api.Value
	for _, s := range l {
		out = append(out, val(s))
	}
	return values.Ascending(out)
}

func counters() api.Model {
	return parse(`model counter
states a b
places x y
rule plain a -> b need x 2 give x 1
rule swap a -> a give x 1 move x y move y x
rule join b -> a need y 1 give y 1 move x x move y x
rule clear b -> b empty x move y y
start 0(0 0 0)`)
}

const acts = "rule put a -> b send c l\nrule putk a -> a send c k\nrule get b -> a receive c l\nrule go a -> b\nstart 0(0 0)"

func lossy() api.Model { return parse("model lossy\nstates a b\nplaces c\nletters l k\n" + acts) }
func ranked() api.Model {
	return parse("model priority\nstates a b\nplaces c\nletters l 0 k 1\n" + acts)
}
func even() api.Model { return parse("model priority\nstates a b\nplaces c\nletters l 1 k 1\n" + acts) }

func nests() api.Model {
	return parse(`model nested
states a b
letters l k
levels 2
rule relabel a -> b path l next k
rule child a -> a path l next l k
rule grow a -> a next k
rule chain a -> b next k l
rule inner a -> a path l k next l l
rule cut b -> a path l k next k
rule remove a -> a path l
rule drop a -> a path l k
start 0(0 0)`)
}

func shallow() api.Model {
	return parse("model nested\nstates a\nletters l k\nlevels 1\nrule r a -> a path l next k\nrule s a -> a next l\nrule t a -> a path k\nstart 0(0 0)")
}

func ages() api.Model {
	return parse(`model timed
states a b
places x y
age 1
rule old a -> b take x 1 2 make y
rule two a -> a take x 0 2 take x 0 1
rule free a -> a make x make x
rule idle b -> a take y 2 2
start 0(0 0)`)
}

// TestExamples checks P24.1 by hand.
func TestExamples(t *testing.T) {
	for _, x := range []struct {
		m      api.Model
		rule   int
		target string
		want   []api.Value
	}{
		{counters(), 0, "0(1 2 0)", vals("0(0 3 0)")}, {counters(), 0, "0(1 0 5)", vals("0(0 2 5)")}, {counters(), 0, "0(0 0 5)", nil}, {counters(), -1, "0(0 0 5)", nil}, {counters(), 1, "0(0 3 4)", vals("0(0 4 2)")},
		{counters(), 2, "0(0 2 0)", vals("0(1 0 3)", "0(1 1 2)", "0(1 2 1)")}, {counters(), 2, "0(0 2 2)", nil}, {counters(), 2, "0(0 0 1)", vals("0(1 0 1)")}, {counters(), 3, "0(1 1 0)", nil}, {counters(), 3, "0(1 0 2)", vals("0(1 0 2)")},
		{counters(), 0, "0(1 1048576 0)", nil}, {counters(), 0, "0(1 1048575 0)", vals("0(0 1048576 0)")}, {lossy(), -1, "0(0 0(1))", vals("0(0 0(1))")}, {lossy(), 0, "0(1 0(1 0))", vals("0(0 0(1))")}, {lossy(), 0, "0(1 0(0 1))", vals("0(0 0(0 1))")},
		{lossy(), 0, "0(1 0)", vals("0(0 0)")}, {lossy(), 2, "0(0 0(1))", vals("0(1 0(0 1))")}, {lossy(), 2, "0(0 0(0 0 0 0 0 0 0 0 0 0 0 0))", nil}, {lossy(), 3, "0(1 0(1))", vals("0(0 0(1))")},
		{ranked(), 0, "0(1 0(1 0))", vals("0(0 0(1))", "0(0 0(1 0))")}, {ranked(), 0, "0(1 0(1))", nil}, {ranked(), 0, "0(1 0)", nil}, {ranked(), 1, "0(0 0(1))", vals("0(0 0)", "0(0 0(0))", "0(0 0(1))", "0(0 0(1 0))")},
		{even(), 1, "0(0 0(1))", vals("0(0 0)", "0(0 0(0))", "0(0 0(1))")}, {even(), 1, "0(0 0(1 1))", vals("0(0 0(1))", "0(0 0(1 0))")}, {ranked(), 2, "0(0 0)", vals("0(1 0(0))")}, {ranked(), -1, "0(0 0)", vals("0(0 0)")},
		{ages(), -1, "0(0 0(0(0 1)))", vals("0(0 0(0(0 0)))")}, {ages(), -1, "0(0 0(0(0 0)))", nil}, {ages(), -1, "0(0 0(0(0 2)))", vals("0(0 0(0(0 1)))", "0(0 0(0(0 2)))")}, {ages(), -1, "0(0 0)", vals("0(0 0)")},
		{ages(), 0, "0(1 0(0(1 0) 0(1 1)))", vals("0(0 0(0(0 1) 0(1 1)))", "0(0 0(0(0 2) 0(1 1)))")}, {ages(), 2, "0(0 0(0(0 0) 0(0 0) 0(0 0)))", vals("0(0 0(0(0 0)))")},
		{shallow(), -1, "0(0 0)", nil}, {shallow(), 0, "0(0 0(1))", vals("0(0 0(0))")}, {shallow(), 1, "0(0 0(0))", vals("0(0 0)")}, {shallow(), 2, "0(0 0)", vals("0(0 0(1))")}, {shallow(), 2, "0(0 0(0 0 0 0 0 0 0 0 0 0 0 0))", nil},
		{nests(), 3, "0(1 0(0(1 0(0))))", vals("0(0 0)")}, {nests(), 3, "0(1 0(0(1 0(1))))", vals("0(0 0(0(1 0(1))))")},
	} {
		if l, e := One(x.m, x.rule, val(x.target)); e != api.OK || !values.SameLists(l, x.want) {
			t.Errorf("kind %d: One(%d, %s) gives %v, %d", x.m.Kind, x.rule, x.target, l, e)
		}
	}
}

// TestErrors checks the errors of P24.1 and P24.2, in order.
func TestErrors(t *testing.T) {
	branching := parse("model branching\nstates a\nplaces x")
	for _, x := range []struct {
		m    api.Model
		rule int
		v    api.Value
		e    api.Errno
	}{
		{branching, 9, val("0"), api.ErrKind}, {api.Model{Kind: 1}, 0, val("0"), api.ErrLimit}, {counters(), 4, val("0"), api.ErrRule}, {counters(), -2, val("0"), api.ErrRule}, {counters(), 0, val("0"), api.ErrConfig},
		{counters(), 2, val("0(0 256 0)"), api.ErrLimit}, {counters(), 2, val("0(0 1048576 0)"), api.ErrLimit}, {counters(), 2, val("0(0 99 0)"), api.OK},
	} {
		l, e := One(x.m, x.rule, x.v)
		if e != x.e || e != api.OK && l != nil {
			t.Errorf("One(%d, %v) gives %d values, %d", x.rule, x.v, len(l), e)
		}
		want := x.e
		if want == api.ErrConfig {
			want = api.ErrValue
		}
		if l, e := Of(x.m, x.rule, []api.Value{x.v}); e != want || e != api.OK && l != nil {
			t.Errorf("Of(%d, %v) gives %d values, %d", x.rule, x.v, len(l), e)
		}
		if want == api.ErrRule {
			want = api.ErrValue
		}
		if l, e := All(x.m, []api.Value{x.v}); e != want || e != api.OK && l != nil {
			t.Errorf("All(%v) gives %d values, %d", x.v, len(l), e)
		}
	}
	pair := vals("0(0 1 3)", "0(0 2 1)")
	slices.Reverse(pair)
	if _, e := Of(counters(), 0, pair); e != api.ErrOrder {
		t.Errorf("Of gives %d", e)
	}
	// The shares of a number that no place has room for are left out, and do not count.
	m := parse("model counter\nstates a\nplaces x y\nrule r a -> a need x 16 need y 16 move x x move y x\nstart 0(0 0 0)")
	if l, e := One(m, 0, val("0(0 1048576 0)")); e != api.ErrLimit {
		t.Errorf("One gives %d values, %d", len(l), e)
	}
	two := parse("model counter\nstates a\nplaces x y z\nrule r a -> a need z 1 move x x move y x move z z\nstart 0(0 0 0 0)")
	if l, e := One(two, 0, val("0(0 1000 0 1048576)")); e != api.OK || len(l) != 0 {
		t.Errorf("One of what no place has room for gives %d values, %d", len(l), e)
	}
	long := parse("model timed\nstates a\nplaces u v w x y z\nage 1\nstart 0(0 0)")
	old := val("0(0 0(0(0 2) 0(0 2) 0(1 2) 0(1 2) 0(2 2) 0(2 2) 0(3 2) 0(3 2) 0(4 2) 0(4 2) 0(5 2) 0(5 2)))")
	if l, e := One(long, -1, old); e != api.ErrLimit || l != nil {
		t.Errorf("One of many ticks gives %d values, %d", len(l), e)
	}
}

// space returns all small configurations of a model.
func space(m api.Model) []api.Value {
	t, _ := model.Type(m)
	parts := []api.Value{}
	switch m.Kind {
	case api.KindCounter:
		var out []api.Value
		for n := range 2 * 25 {
			out = append(out, values.Counter(n/25, []int{n % 5, n / 5 % 5}))
		}
		return out
	case api.KindLossy, api.KindPriority:
		parts = bags(vals("0", "1"), 4, false)
	case api.KindTimed:
		parts = bags(vals("0(0 0)", "0(0 1)", "0(0 2)", "0(1 0)", "0(1 2)"), 4, true)
	case api.KindNested:
		nodes := vals("0", "1")
		if m.Levels == 2 {
			nodes = vals("0(0 0)", "0(1 0)", "0(0 0(0))", "0(0 0(1))", "0(1 0(0))", "0(1 0(1))", "0(0 0(0 1))", "0(0 0(1 1))")
		}
		parts = bags(nodes, 3, true)
	}
	var out []api.Value
	for state := range m.States {
		for _, p := range parts {
			v, e := order.Sorted(t, api.Value{Kids: []api.Value{{N: state}, p}})
			if e != api.OK {
				panic(p)
			}
			out = append(out, v)
		}
	}
	return out
}

// bags returns the lists of up to some values, sorted or in any order.
func bags(l []api.Value, most int, sorted bool) []api.Value {
	out := []api.Value{{}}
	for i := 0; i < len(out); i++ {
		for _, v := range l {
			k := out[i].Kids
			if len(k) < most && (!sorted || len(k) == 0 || order.Compare(k[len(k)-1], v) <= 0) {
				out = append(out, api.Value{Kids: append(slices.Clone(k), v)})
			}
		}
	}
	return out
}

// below returns a configuration with all that losses make of it.
func below(m api.Model, c api.Value) []api.Value {
	out := []api.Value{c}
	if m.Kind != api.KindLossy && m.Kind != api.KindPriority {
		return out
	}
	for i := 0; i < len(out); i++ {
		l, _ := step.Quiet(m, out[i])
		for _, v := range l {
			if !slices.ContainsFunc(out, func(x api.Value) bool { return values.Same(x, v) }) {
				out = append(out, v)
			}
		}
	}
	return out
}

// TestAgainstSteps checks P24.1: a configuration has a step, after losses, to one above a target exactly if it is in the set of One.
func TestAgainstSteps(t *testing.T) {
	for _, m := range []api.Model{counters(), lossy(), ranked(), even(), nests(), shallow(), ages()} {
		ty, _ := model.Type(m)
		all := space(m)
		for rule := -1; rule < len(m.Rules); rule++ {
			behind := make([][]api.Value, len(all))
			for i, c := range all {
				for _, d := range below(m, c) {
					l, _ := step.Apply(m, rule, d)
					behind[i] = append(behind[i], l...)
					if rule == -1 && m.Kind != api.KindTimed && (m.Kind == api.KindLossy || m.Kind == api.KindPriority) {
						behind[i] = append(behind[i], d)
					}
				}
			}
			for n := 0; n < len(all); n += 1 + len(all)/60 {
				b, e := One(m, rule, all[n])
				if e != api.OK || basis.Check(ty, b) != api.OK {
					t.Fatalf("kind %d: One(%d, %v) gives %v, %d", m.Kind, rule, all[n], b, e)
				}
				for i, c := range all {
					leads := slices.ContainsFunc(behind[i], func(v api.Value) bool { return order.Leq(ty, all[n], v) })
					in := slices.ContainsFunc(b, func(v api.Value) bool { return order.Leq(ty, v, c) })
					if leads != in {
						t.Fatalf("kind %d: One(%d, %v) gives %v: %v is wrong", m.Kind, rule, all[n], b, c)
					}
				}
			}
		}
	}
}

// TestUnions checks P24.2: Of and All are unions of One.
func TestUnions(t *testing.T) {
	for _, m := range []api.Model{counters(), ranked(), nests(), ages()} {
		ty, _ := model.Type(m)
		all := space(m)
		for n := 0; n+7 < len(all); n += 1 + len(all)/20 {
			b, _ := basis.Minimise(ty, []api.Value{all[n], all[n+3], all[n+7]})
			union := slices.Clone(b)
			for rule := -1; rule < len(m.Rules); rule++ {
				var ones []api.Value
				for _, v := range b {
					l, _ := One(m, rule, v)
					ones = append(ones, l...)
				}
				union = append(union, ones...)
				want, _ := basis.Minimise(ty, ones)
				if l, e := Of(m, rule, b); e != api.OK || !values.SameLists(l, want) {
					t.Fatalf("Of(%d, %v) gives %v, %d", rule, b, l, e)
				}
			}
			want, _ := basis.Minimise(ty, union)
			if l, e := All(m, b); e != api.OK || !values.SameLists(l, want) {
				t.Fatalf("All(%v) gives %v, %d", b, l, e)
			}
		}
	}
	if l, e := All(counters(), nil); e != api.OK || len(l) != 0 {
		t.Errorf("All of nothing gives %v, %d", l, e)
	}
}

// TestMost checks P24.1: as many minimal predecessors as there may be.
func TestMost(t *testing.T) {
	m := parse("model counter\nstates a\nplaces x y\nrule r a -> a move x x move y x\nstart 0(0 0 0)")
	if l, e := One(m, 0, val("0(0 255 0)")); e != api.OK || len(l) != 256 {
		t.Errorf("One gives %d values, %d", len(l), e)
	}
	if l, e := One(m, 0, val("0(0 256 0)")); e != api.ErrLimit || l != nil {
		t.Errorf("One gives %d values, %d", len(l), e)
	}
}
