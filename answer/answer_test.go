package answer

import (
	"testing"

	"coverability/api"
	"coverability/order"
	"coverability/syntax"
)

const w = api.Omega

func parse(text string) api.Model {
	m, line, e := syntax.Parse(text)
	if e != api.OK {
		panic([]any{text, line, e})
	}
	return m
}

func val(s string) api.Value {
	v, e := order.Parse(s)
	if e != api.OK {
		panic(s)
	}
	return v
}

func vals(l ...string) []api.Value {
	var out []api.Value
	for _, s := range l {
		out = append(out, val(s))
	}
	return out
}

func steps(l ...any) []api.Step {
	var out []api.Step
	for i := 0; i < len(l); i += 2 {
		out = append(out, api.Step{Rule: l[i].(int), Config: val(l[i+1].(string))})
	}
	return out
}

func limits(l ...api.Limit) []api.Limit { return l }

func up() api.Model {
	return parse("model counter\nstates a\nplaces x y\nrule r a -> a give x 1\nstart 0(0 0 0)")
}

func finite() api.Model {
	return parse("model counter\nstates a b\nplaces x y\nrule r a -> b need x 1 give y 1\nrule s b -> a need y 1\nstart 0(0 2 0)")
}

func circle() api.Model {
	return parse("model counter\nstates a b\nplaces x\nrule r a -> b\nrule s b -> a\nstart 0(0 0)")
}

// both grows x at first, and then y.
func both() api.Model {
	return parse("model counter\nstates a b\nplaces x y\nrule r a -> a give x 1\nrule s a -> b\nrule t b -> b give y 1\nstart 0(0 0 0)")
}

// long goes 70 steps before it stops.
func long() api.Model {
	return parse("model counter\nstates a\nplaces x\nrule r a -> a need x 1\nstart 0(0 70)")
}

// TestAsk checks P42.1, kind by kind.
func TestAsk(t *testing.T) {
	all := vals("0(0 0 0)", "0(0 1 0)", "0(0 2 0)", "0(1 0 1)", "0(1 1 1)")
	down := vals("0(0 0)", "0(1 0)")
	for i, x := range []struct {
		m      api.Model
		q      api.Question
		budget int
		want   api.Answer
		e      api.Errno
	}{
		{up(), api.Question{Kind: api.AskCover, Target: val("0(0 1 0)")}, 9, api.Answer{Decided: true, Yes: true, Run: steps(0, "0(0 1 0)"), Used: 1}, api.OK},
		{up(), api.Question{Kind: api.AskCover, Target: val("0(0 0 1)")}, 9, api.Answer{Decided: true, Basis: vals("0(0 0 1)"), Used: 1}, api.OK},
		{up(), api.Question{Kind: api.AskCover, Target: val("0(0 3 0)")}, 1, api.Answer{Used: 1}, api.OK},
		{up(), api.Question{Kind: api.AskReach, Target: val("0(0 1 0)")}, 9, api.Answer{Decided: true, Yes: true, Run: steps(0, "0(0 1 0)"), Used: 1}, api.OK},
		{up(), api.Question{Kind: api.AskReach, Target: val("0(0 0 1)")}, 0, api.Answer{}, api.OK},
		{finite(), api.Question{Kind: api.AskReach, Target: val("0(0 0 1)")}, 99, api.Answer{Decided: true, Atom: api.Atom{Coefs: []int{0, -1}, Values: []int{0, -1}}, Used: 2}, api.OK},
		{parse("model lossy\nstates a b\nplaces c\nletters l\nrule go a -> b\nstart 0(0 0)"), api.Question{Kind: api.AskReach, Target: val("0(0 0(0))")}, 99, api.Answer{Decided: true, Closed: down, Used: 2}, api.OK},
		{up(), api.Question{Kind: api.AskBounded}, 9, api.Answer{Decided: true, Pump: api.Pump{Again: []int{0}}, Used: 3}, api.OK},
		{up(), api.Question{Kind: api.AskBounded}, 1, api.Answer{Decided: true, Pump: api.Pump{Again: []int{0}}, Used: 1}, api.OK},
		{up(), api.Question{Kind: api.AskBounded}, 0, api.Answer{}, api.OK},
		{finite(), api.Question{Kind: api.AskBounded}, 99, api.Answer{Decided: true, Yes: true, Limits: limits(api.Limit{Vector: []int{2, 0}}, api.Limit{State: 1, Vector: []int{1, 1}}), Used: 5}, api.OK},
		{finite(), api.Question{Kind: api.AskBounded}, 3, api.Answer{Used: 3}, api.OK},
		{up(), api.Question{Kind: api.AskPlace}, 9, api.Answer{Decided: true, Pump: api.Pump{Again: []int{0}}, Used: 3}, api.OK},
		{up(), api.Question{Kind: api.AskPlace, Place: 1}, 9, api.Answer{Decided: true, Yes: true, Limits: limits(api.Limit{Vector: []int{w, 0}}), Used: 3}, api.OK},
		{up(), api.Question{Kind: api.AskPlace, Place: 1}, 2, api.Answer{Used: 2}, api.OK},
		{both(), api.Question{Kind: api.AskPlace, Place: 1}, 99, api.Answer{Used: 9}, api.OK},
		{circle(), api.Question{Kind: api.AskDead}, 2, api.Answer{Decided: true, Closed: down, Used: 2}, api.OK},
		{circle(), api.Question{Kind: api.AskDead}, 1, api.Answer{}, api.OK},
		{finite(), api.Question{Kind: api.AskDead}, 1000, api.Answer{Decided: true, Yes: true, Run: steps(0, "0(1 1 1)", 1, "0(0 1 0)", 0, "0(1 0 1)", 1, "0(0 0 0)"), Used: 5}, api.OK},
		{parse("model counter\nstates a\nplaces x\nstart 0(0 0)"), api.Question{Kind: api.AskDead}, 0, api.Answer{Decided: true, Yes: true, Used: 1}, api.OK},
		{up(), api.Question{Kind: api.AskDead}, 1000, api.Answer{}, api.OK},
		{circle(), api.Question{Kind: api.AskHome}, 9, api.Answer{Decided: true, Yes: true, Closed: down, Used: 2}, api.OK},
		{finite(), api.Question{Kind: api.AskHome}, 9, api.Answer{Decided: true, Run: steps(0, "0(1 1 1)"), Closed: all, Used: 5}, api.OK},
		{up(), api.Question{Kind: api.AskHome}, 9, api.Answer{}, api.OK},
		{long(), api.Question{Kind: api.AskDead}, 128, api.Answer{Used: 71}, api.OK},
		{up(), api.Question{Kind: 9}, -1, api.Answer{}, api.ErrAsk}, {up(), api.Question{Kind: api.AskDead}, -1, api.Answer{}, api.ErrRange}, {api.Model{}, api.Question{}, -1, api.Answer{}, api.ErrKind},
		{up(), api.Question{Kind: api.AskReach, Target: val("0(0 99 0)")}, 999, api.Answer{}, api.ErrLimit}, {up(), api.Question{Kind: api.AskCover, Target: val("0(0 99 0)")}, 999, api.Answer{}, api.ErrLimit},
		{parse("model counter\nstates a b\nplaces x\nrule r a -> b\nrule s b -> a give x 1\nstart 0(0 1048576)"), api.Question{Kind: api.AskBounded}, 999, api.Answer{}, api.ErrLimit},
		{parse("model counter\nstates a b\nplaces x\nrule r a -> b\nrule s b -> a give x 1\nstart 0(0 1048576)"), api.Question{Kind: api.AskPlace}, 999, api.Answer{}, api.ErrLimit},
	} {
		if a, e := Ask(x.m, x.q, x.budget); e != x.e || !Same(a, x.want) {
			t.Errorf("%d: Ask gives %v, %d and not %v", i, a, e, x.want)
		}
	}
}

// TestLongPump checks P42.1: the first pump of this model has 71 rules before it, so it is no answer.
func TestLongPump(t *testing.T) {
	m := parse(`model counter
states a b c d e f g p
places x y
rule r1 a -> b need x 1 give y 1
rule r2 b -> c
rule r3 c -> d
rule r4 d -> e
rule r5 e -> f
rule r6 f -> g
rule r7 g -> a
rule out a -> p need y 10
rule more p -> p give x 1
start 0(0 20 0)`)
	a, e := Ask(m, api.Question{Kind: api.AskBounded}, 1000)
	if e != api.OK || !Empty(a) || a.Used == 0 {
		t.Errorf("Ask gives %v, %d", a, e)
	}
	if a, e := Ask(m, api.Question{Kind: api.AskPlace}, 1000); e != api.OK || !Empty(a) {
		t.Errorf("Ask gives %v, %d", a, e)
	}
	if a, e := Ask(m, api.Question{Kind: api.AskPlace, Place: 1}, 1000); e != api.OK || !a.Decided || !a.Yes || len(a.Limits) == 0 {
		t.Errorf("Ask gives %v, %d", a, e)
	}
}

// TestEmptyAndSame checks P42.2, field by field.
func TestEmptyAndSame(t *testing.T) {
	if !Empty(api.Answer{}) || !Empty(api.Answer{Used: 7, Run: []api.Step{}}) || !Same(api.Answer{}, api.Answer{Basis: []api.Value{}}) {
		t.Error("an answer without anything is not empty")
	}
	for i, a := range []api.Answer{
		{Decided: true}, {Yes: true}, {Run: steps(0, "0")}, {Basis: vals("0")}, {Atom: api.Atom{Mod: 2}}, {Atom: api.Atom{Coefs: []int{0}}}, {Atom: api.Atom{Values: []int{0}}}, {Limits: make([]api.Limit, 1)}, {Pump: api.Pump{Before: []int{0}}}, {Pump: api.Pump{Again: []int{0}}}, {Closed: vals("0")},
	} {
		if Empty(a) || Same(a, api.Answer{}) || !Same(a, a) {
			t.Errorf("%d: Empty or Same is wrong", i)
		}
	}
	if Same(api.Answer{Used: 1}, api.Answer{}) {
		t.Error("Same does not look at Used")
	}
}

// TestBudgets checks the consequences: a decided answer stays the same with a greater budget.
func TestBudgets(t *testing.T) {
	for _, m := range []api.Model{finite(), circle(), both()} {
		for _, q := range []api.Question{{Kind: api.AskCover, Target: m.Start}, {Kind: api.AskReach, Target: m.Start}, {Kind: api.AskBounded}, {Kind: api.AskPlace}, {Kind: api.AskDead}, {Kind: api.AskHome}} {
			var first api.Answer
			for budget := range 40 {
				a, e := Ask(m, q, budget)
				if e != api.OK {
					t.Fatalf("Ask(%v, %d) gives %d", q, budget, e)
				}
				if !first.Decided {
					first = a
					continue
				}
				a.Used = first.Used
				if !Same(a, first) {
					t.Errorf("Ask(%v, %d) gives %v and not %v", q, budget, a, first)
				}
			}
		}
	}
}

// TestLongest checks P42.1: runs and pumps that are just short enough.
func TestLongest(t *testing.T) {
	m := long()
	m.Start.Kids[1].N = 64
	if a, e := Ask(m, api.Question{Kind: api.AskDead}, 128); e != api.OK || !a.Decided || len(a.Run) != 64 {
		t.Errorf("Ask gives %v, %d", a, e)
	}
	pump := parse(`model counter
states a b c d e p q r
places x y
rule r1 a -> b need x 1 give y 1
rule r2 b -> c
rule r3 c -> d
rule r4 d -> e
rule r5 e -> a
rule out a -> p need y 12
rule p1 p -> q
rule p2 q -> r
rule p3 r -> p give x 1
start 0(0 13 0)`)
	a, e := Ask(pump, api.Question{Kind: api.AskBounded}, 1000)
	if e != api.OK || !a.Decided || len(a.Pump.Before) != 61 || len(a.Pump.Again) != 3 {
		t.Errorf("Ask gives %v, %d", a, e)
	}
}

// TestSameFields checks P42.2: answers that differ in one part of one field.
func TestSameFields(t *testing.T) {
	one := func(x api.Limit) api.Answer { return api.Answer{Limits: limits(x)} }
	for i, x := range [][2]api.Answer{
		{one(api.Limit{State: 1, Vector: []int{1}}), one(api.Limit{Vector: []int{1}})}, {one(api.Limit{Vector: []int{1}}), one(api.Limit{Vector: []int{2}})}, {{Run: steps(0, "0")}, {Run: steps(1, "0")}}, {{Run: steps(0, "0")}, {Run: steps(0, "1")}},
		{{Basis: vals("1")}, {Basis: vals("2")}}, {{Closed: vals("1")}, {Closed: vals("2")}}, {{Pump: api.Pump{Before: []int{1}}}, {Pump: api.Pump{Before: []int{2}}}}, {{Pump: api.Pump{Again: []int{1}}}, {Pump: api.Pump{Again: []int{2}}}},
	} {
		if Same(x[0], x[1]) || !Same(x[0], x[0]) {
			t.Errorf("%d: Same sees no difference", i)
		}
	}
}
