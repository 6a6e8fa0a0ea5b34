package model

import (
	"fmt"
	"strings"
	"testing"

	"coverability/api"
	"coverability/order"
)

func val(s string) api.Value {
	v, e := order.Parse(s)
	if e != api.OK {
		panic(s)
	}
	return v
}

// sample returns a valid model of a kind.
func sample(kind int) api.Model {
	m := api.Model{Kind: kind, States: []string{"a", "b"}, Places: []string{"x", "y"}}
	r := api.Rule{Name: "r", From: 0, To: 1}
	switch kind {
	case api.KindCounter:
		r.Need, r.Give, r.Move = []int{1, 0}, []int{0, 16}, []int{-1, 0}
		m.Start = val("0(1 3 0)")
	case api.KindLossy:
		m.Letters = []string{"l", "k"}
		r.Act, r.Channel, r.Letter = api.ActSend, 1, 1
		m.Start = val("0(0 0(1 0) 0)")
	case api.KindPriority:
		m.Letters, m.Ranks = []string{"l", "k"}, []int{0, 5}
		m.Start = val("0(0 0(1 0) 0)")
	case api.KindNested:
		m.Places, m.Letters, m.Levels = nil, []string{"l", "k"}, 2
		r.Path, r.Next = []int{0}, []int{1, 0}
		m.Start = val("0(0 0(0(0 0) 0(1 0(0 1))))")
	case api.KindTimed:
		m.Age = 2
		r.Takes, r.Makes = []api.Take{{Place: 1, Low: 1, High: 3}}, []int{0, 0, 1}
		m.Start = val("0(0 0(0(0 0) 0(1 3)))")
	case api.KindBranching:
		r.Need, r.Give, r.Second = []int{1, 0}, []int{0, 1}, 1
	}
	m.Rules = []api.Rule{r}
	return m
}

// TestSamples checks P15.1: valid models, their types, and their configurations.
func TestSamples(t *testing.T) {
	types := map[int]string{
		api.KindCounter:   "{3 0 [] [{2 2 [] []} {1 0 [] []} {1 0 [] []}]}",
		api.KindLossy:     "{3 0 [] [{2 2 [] []} {4 0 [] [{2 2 [] []}]} {4 0 [] [{2 2 [] []}]}]}",
		api.KindPriority:  "{3 0 [] [{2 2 [] []} {7 2 [0 5] []} {7 2 [0 5] []}]}",
		api.KindNested:    "{3 0 [] [{2 2 [] []} {5 0 [] [{3 0 [] [{2 2 [] []} {5 0 [] [{2 2 [] []}]}]}]}]}",
		api.KindTimed:     "{3 0 [] [{2 2 [] []} {5 0 [] [{3 0 [] [{2 2 [] []} {2 4 [] []}]}]}]}",
		api.KindBranching: "{3 0 [] [{2 2 [] []} {1 0 [] []} {1 0 [] []}]}",
	}
	for kind, want := range types {
		m := sample(kind)
		ty, e := Type(m)
		if e != api.OK || fmt.Sprint(ty) != want || order.Check(ty) != api.OK || Check(m) != api.OK {
			t.Errorf("kind %d: type %v, %d", kind, ty, e)
		}
		if !Same(m, sample(kind)) || kind != api.KindBranching && !Valid(m, m.Start) {
			t.Errorf("kind %d: Same or Valid is wrong", kind)
		}
	}
	m := sample(api.KindNested)
	m.Levels, m.Rules, m.Start = 1, nil, val("0(0 0(0 0 1))")
	if ty, e := Type(m); e != api.OK || fmt.Sprint(ty) != "{3 0 [] [{2 2 [] []} {5 0 [] [{2 2 [] []}]}]}" {
		t.Errorf("one level: %v, %d", ty, e)
	}
}

// TestErrors checks P15.1: each error of a model, and all functions' errors.
func TestErrors(t *testing.T) {
	long := func(n int) (l []string) {
		for i := range n {
			l = append(l, fmt.Sprintf("n%d", i))
		}
		return l
	}
	rule := func(change func(r *api.Rule)) func(m *api.Model) { return func(m *api.Model) { change(&m.Rules[0]) } }
	for i, x := range []struct {
		kind   int
		e      api.Errno
		change func(m *api.Model)
	}{
		{1, api.ErrKind, func(m *api.Model) { m.Kind, m.States = 0, nil }}, {1, api.ErrKind, func(m *api.Model) { m.Kind = 7 }}, {1, api.ErrKind, func(m *api.Model) { m.Kind = -1 }},
		{1, api.ErrLimit, func(m *api.Model) { m.States, m.Ranks = nil, []int{1} }}, {1, api.ErrLimit, func(m *api.Model) { m.States = long(9) }}, {1, api.ErrLimit, func(m *api.Model) { m.Places = nil }},
		{1, api.ErrLimit, func(m *api.Model) { m.Places = long(7) }}, {1, api.ErrLimit, func(m *api.Model) { m.Letters = long(1) }}, {1, api.ErrLimit, func(m *api.Model) { m.Levels = 1 }},
		{1, api.ErrLimit, func(m *api.Model) { m.Age = 1 }}, {1, api.ErrLimit, func(m *api.Model) { m.Rules = make([]api.Rule, 13) }}, {2, api.ErrLimit, func(m *api.Model) { m.Places = long(3) }},
		{2, api.ErrLimit, func(m *api.Model) { m.Letters = nil }}, {2, api.ErrLimit, func(m *api.Model) { m.Letters = long(7) }}, {4, api.ErrLimit, func(m *api.Model) { m.Places = long(1) }},
		{4, api.ErrLimit, func(m *api.Model) { m.Levels = 0 }}, {4, api.ErrLimit, func(m *api.Model) { m.Levels = 3 }}, {5, api.ErrLimit, func(m *api.Model) { m.Age = 4 }}, {5, api.ErrLimit, func(m *api.Model) { m.Age = -1 }},
		{1, api.ErrModel, func(m *api.Model) { m.Ranks, m.States = []int{1}, []string{"A"} }}, {3, api.ErrModel, func(m *api.Model) { m.Ranks = []int{1} }}, {3, api.ErrModel, func(m *api.Model) { m.Ranks = []int{1, 6} }},
		{3, api.ErrModel, func(m *api.Model) { m.Ranks = []int{-1, 1} }}, {1, api.ErrName, func(m *api.Model) { m.States[0] = "A" }}, {1, api.ErrName, func(m *api.Model) { m.Places[0] = "a" }},
		{1, api.ErrName, func(m *api.Model) { m.Rules[0].Name = "x" }}, {1, api.ErrName, func(m *api.Model) { m.Rules[0] = api.Rule{Name: ""} }}, {2, api.ErrName, func(m *api.Model) { m.Letters[1] = "start" }},
		{1, api.ErrRule, rule(func(r *api.Rule) { r.From = -1 })}, {1, api.ErrRule, rule(func(r *api.Rule) { r.To = 2 })}, {1, api.ErrRule, rule(func(r *api.Rule) { r.Need = nil })},
		{1, api.ErrRule, rule(func(r *api.Rule) { r.Need[0] = 17 })}, {1, api.ErrRule, rule(func(r *api.Rule) { r.Give[0] = -1 })}, {1, api.ErrRule, rule(func(r *api.Rule) { r.Move = []int{0} })},
		{1, api.ErrRule, rule(func(r *api.Rule) { r.Move = []int{0, 2} })}, {1, api.ErrRule, rule(func(r *api.Rule) { r.Move = []int{-2, 0} })}, {1, api.ErrRule, rule(func(r *api.Rule) { r.Second = -1 })},
		{1, api.ErrRule, rule(func(r *api.Rule) { r.Act = 1 })}, {1, api.ErrRule, rule(func(r *api.Rule) { r.Path = []int{0} })}, {1, api.ErrRule, rule(func(r *api.Rule) { r.Makes = []int{0} })},
		{2, api.ErrRule, rule(func(r *api.Rule) { r.Act = 3 })}, {2, api.ErrRule, rule(func(r *api.Rule) { r.Act = 0 })}, {2, api.ErrRule, rule(func(r *api.Rule) { r.Channel = 2 })},
		{2, api.ErrRule, rule(func(r *api.Rule) { r.Letter = -1 })}, {2, api.ErrRule, rule(func(r *api.Rule) { r.Need = []int{0, 0} })}, {3, api.ErrRule, rule(func(r *api.Rule) { r.Letter = 1 })},
		{4, api.ErrRule, rule(func(r *api.Rule) { r.Path, r.Next = nil, nil })}, {4, api.ErrRule, rule(func(r *api.Rule) { r.Path = []int{0, 0, 0} })}, {4, api.ErrRule, rule(func(r *api.Rule) { r.Next = []int{2} })},
		{5, api.ErrRule, rule(func(r *api.Rule) { r.Takes[0].High = 4 })}, {5, api.ErrRule, rule(func(r *api.Rule) { r.Takes[0].Low = 4 })}, {5, api.ErrRule, rule(func(r *api.Rule) { r.Takes[0].Low = -1 })},
		{5, api.ErrRule, rule(func(r *api.Rule) { r.Takes[0].Place = 2 })}, {5, api.ErrRule, rule(func(r *api.Rule) { r.Takes = make([]api.Take, 4) })}, {5, api.ErrRule, rule(func(r *api.Rule) { r.Makes = []int{1, 0} })},
		{5, api.ErrRule, rule(func(r *api.Rule) { r.Makes = make([]int, 4) })}, {5, api.ErrRule, rule(func(r *api.Rule) { r.Move = []int{0} })}, {6, api.ErrRule, rule(func(r *api.Rule) { r.Second = -2 })},
		{6, api.ErrRule, rule(func(r *api.Rule) { r.Second = 2 })}, {6, api.ErrRule, rule(func(r *api.Rule) { r.From = -1 })}, {6, api.ErrRule, rule(func(r *api.Rule) { r.From, r.Second = -1, -1 })},
		{6, api.ErrRule, rule(func(r *api.Rule) { r.Move = []int{0, 1} })}, {6, api.ErrRule, rule(func(r *api.Rule) { r.From = -2 })},
		{1, api.ErrConfig, func(m *api.Model) { m.Start = val("0(2 0 0)") }}, {1, api.ErrConfig, func(m *api.Model) { m.Start = val("0") }}, {4, api.ErrConfig, func(m *api.Model) { m.Start = val("0(0 0(0(1 0) 0(0 0)))") }},
		{6, api.ErrConfig, func(m *api.Model) { m.Start = val("0(0 0 0)") }}, {1, api.ErrRule, func(m *api.Model) { m.Start, m.Rules[0].To = val("0"), 9 }},
		{6, api.OK, rule(func(r *api.Rule) { r.From, r.Second, r.Need = -1, -1, []int{0, 0} })}, {6, api.OK, rule(func(r *api.Rule) { r.Second = -1 })}, {2, api.OK, rule(func(r *api.Rule) { r.Act, r.Channel, r.Letter = 0, 0, 0 })},
		{1, api.OK, rule(func(r *api.Rule) { r.Move = []int{} })}, {1, api.OK, func(m *api.Model) { m.Rules = nil }},
	} {
		m := sample(x.kind)
		x.change(&m)
		_, e1 := Type(m)
		_, e2 := State(m, m.Start)
		_, e3 := Config(m, 0, nil)
		_, e4 := Matrix(m)
		if e := Check(m); e != x.e || e1 != x.e || x.e != api.OK && (e2 != x.e || e3 != x.e || e4 != x.e || Valid(m, m.Start)) {
			t.Errorf("%d: errors %d, %d, %d, %d, %d and not %d", i, e, e1, e2, e3, e4, x.e)
		}
		if same := Same(m, sample(x.kind)); same {
			t.Errorf("%d: Same sees no difference", i)
		}
	}
	for _, k := range strings.Fields("model states places letters levels age rule need give move empty send receive path next take make start") {
		m := sample(1)
		m.Places[1] = k
		if e := Check(m); e != api.ErrName {
			t.Errorf("the keyword %s gives %d", k, e)
		}
	}
}

// TestConfigs checks P15.2: State, Config, Matrix and Same.
func TestConfigs(t *testing.T) {
	m := sample(api.KindCounter)
	if s, e := State(m, val("0(1 7 0)")); s != 1 || e != api.OK {
		t.Errorf("State gives %d, %d", s, e)
	}
	if s, e := State(m, val("0(1 7)")); s != 0 || e != api.ErrConfig {
		t.Errorf("State gives %d, %d", s, e)
	}
	parts := []api.Value{{N: 3}, {N: 4}}
	c, e := Config(m, 1, parts)
	if e != api.OK || order.Compare(c, val("0(1 3 4)")) != 0 {
		t.Errorf("Config gives %v, %d", c, e)
	}
	if _, e := Config(m, 2, parts); e != api.ErrConfig {
		t.Errorf("Config gives %d", e)
	}
	if _, e := Matrix(m); e != api.ErrKind {
		t.Errorf("Matrix with a Move gives %d", e)
	}
	m.Rules[0].Move = []int{}
	if x, e := Matrix(m); e != api.OK || fmt.Sprint(x) != "[[-1] [16]]" {
		t.Errorf("Matrix gives %v, %d", x, e)
	}
	m.Rules = nil
	if _, e := Matrix(m); e != api.ErrKind {
		t.Errorf("Matrix without rules gives %d", e)
	}
	if _, e := Matrix(sample(api.KindBranching)); e != api.ErrKind {
		t.Errorf("Matrix of a branching model gives %d", e)
	}
	if s, e := State(sample(api.KindBranching), val("0(1 2 3)")); s != 1 || e != api.OK {
		t.Errorf("State of a branching model gives %d, %d", s, e)
	}
	a, b := api.Model{Rules: []api.Rule{{Need: []int{}}}}, api.Model{States: []string{}, Rules: []api.Rule{{}}}
	if !Same(a, b) {
		t.Error("Same sees a difference between nothing and an empty list")
	}
}

// TestMost checks P15.1: as much of everything as there may be.
func TestMost(t *testing.T) {
	change := func(kind int, f func(m *api.Model, r *api.Rule)) api.Model {
		m := sample(kind)
		f(&m, &m.Rules[0])
		return m
	}
	for i, m := range []api.Model{
		change(1, func(m *api.Model, r *api.Rule) {
			m.Rules = nil
			for i := range 12 {
				x := sample(1).Rules[0]
				x.Name = fmt.Sprintf("r%d", i)
				m.Rules = append(m.Rules, x)
			}
		}),
		change(1, func(m *api.Model, r *api.Rule) { r.From, r.To, r.Move = 1, 1, []int{1, 1} }),
		change(1, func(m *api.Model, r *api.Rule) { m.States = []string{"a", "b", "c", "d", "e", "f", "g", "h"} }),
		change(4, func(m *api.Model, r *api.Rule) { r.Path, r.Next = []int{1, 1}, []int{1, 1} }),
		change(4, func(m *api.Model, r *api.Rule) { r.Path, r.Next = []int{1, 0}, nil }),
		change(5, func(m *api.Model, r *api.Rule) { r.Takes, r.Makes = make([]api.Take, 3), []int{1, 1, 1} }),
		change(5, func(m *api.Model, r *api.Rule) { m.Age, r.Takes[0].Low, r.Takes[0].High = 3, 4, 4 }),
		change(6, func(m *api.Model, r *api.Rule) { r.From, r.Second = 1, 1 }),
		change(3, func(m *api.Model, r *api.Rule) { r.Act, r.Channel, r.Letter = api.ActReceive, 1, 1 }),
	} {
		if e := Check(m); e != api.OK {
			t.Errorf("%d: Check gives %d", i, e)
		}
	}
}
