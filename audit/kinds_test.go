package audit

import (
	"fmt"
	"math/rand"
	"testing"

	"coverability/answer"
	"coverability/api"
	"coverability/checker"
	"coverability/model"
	"coverability/order"
	"coverability/run"
	"coverability/step"
)

// randomModel returns a model of a kind with two states, and few rules.
func randomModel(r *rand.Rand, kind int) api.Model {
	m := api.Model{Kind: kind, States: []string{"a", "b"}, Places: []string{"x"}, Letters: []string{"l", "k"}}
	start := []string{"0(0 0)", "0(0 0)"}
	rule := func() api.Rule { return api.Rule{} }
	letters := func(most int) (l []int) {
		for range r.Intn(most + 1) {
			l = append(l, r.Intn(2))
		}
		return l
	}
	switch kind {
	case api.KindCounter:
		m.Places, m.Letters = []string{"x", "y"}, nil
		start = []string{"0(0 1 2)", "0(1 2 0)"}
		rule = func() api.Rule {
			x := api.Rule{Need: []int{r.Intn(3), r.Intn(2)}, Give: []int{r.Intn(2), r.Intn(3)}}
			if r.Intn(3) == 0 {
				x.Move = []int{r.Intn(3) - 1, r.Intn(3) - 1}
			}
			return x
		}
	case api.KindLossy, api.KindPriority:
		start = []string{"0(0 0(0 1))", "0(0 0)"}
		if kind == api.KindPriority {
			m.Ranks = []int{r.Intn(2), 1}
		}
		rule = func() api.Rule {
			x := api.Rule{Act: r.Intn(3)}
			if x.Act != api.ActNone {
				x.Letter = r.Intn(2)
			}
			return x
		}
	case api.KindNested:
		m.Places, m.Levels = nil, 2
		start = []string{"0(0 0(0(0 0(0 1))))", "0(0 0)"}
		rule = func() api.Rule {
			x := api.Rule{Path: letters(2), Next: letters(2)}
			if len(x.Path)+len(x.Next) == 0 {
				x.Next = []int{0}
			}
			return x
		}
	case api.KindTimed:
		m.Letters, m.Age = nil, 1
		start = []string{"0(0 0(0(0 0) 0(0 1)))", "0(0 0)"}
		rule = func() api.Rule {
			x := api.Rule{}
			for range r.Intn(3) {
				low := r.Intn(3)
				x.Takes = append(x.Takes, api.Take{Low: low, High: low + r.Intn(3-low)})
			}
			x.Makes = make([]int, r.Intn(3))
			return x
		}
	}
	for i := range 1 + r.Intn(3) {
		x := rule()
		x.Name, x.From, x.To = fmt.Sprintf("r%d", i), r.Intn(2), r.Intn(2)
		m.Rules = append(m.Rules, x)
	}
	m.Start = val(start[r.Intn(2)])
	return m
}

// wander returns a configuration some steps behind the beginning.
func wander(r *rand.Rand, m api.Model) api.Value {
	at := m.Start
	for range r.Intn(4) {
		if l, e := step.All(m, at); e == api.OK && len(l) > 0 {
			at = l[r.Intn(len(l))].Config
		}
	}
	return at
}

// TestKinds checks T3, T5, T6, T7 and T10 for random models of all kinds that have steps.
func TestKinds(t *testing.T) {
	r := rand.New(rand.NewSource(45))
	decided := map[string]int{}
	for n := range 400 {
		m := randomModel(r, 1+n%5)
		if e := model.Check(m); e != api.OK {
			t.Fatalf("%v is not valid: %d", m, e)
		}
		// What another model reaches from the same beginning can be a target that this one does not reach.
		o := randomModel(r, m.Kind)
		o.Start, o.Ranks = m.Start, m.Ranks
		target := wander(r, []api.Model{m, o}[r.Intn(2)])
		for _, kind := range []int{api.AskCover, api.AskReach, api.AskDead, api.AskHome} {
			q := api.Question{Kind: kind}
			if kind <= api.AskReach {
				q.Target = target
			}
			a, e := answer.Ask(m, q, 40)
			if e != api.OK {
				continue
			}
			for _, depth := range []int{0, 4} {
				if ok, e := Agrees(m, q, a, depth); e != api.OK || !ok {
					t.Fatalf("%v, %v: %v does not agree with exploring, %d", m, q, a, e)
				}
			}
			if ok, e := Both(m, q, 40); kind == api.AskCover && (e != api.OK || !ok) {
				t.Fatalf("%v, %v: two ways disagree, %d", m, q, e)
			}
			if !a.Decided {
				continue
			}
			decided[fmt.Sprint(m.Kind, kind, a.Yes)]++
			if e := checker.Check(m, q, a); e != api.OK {
				t.Fatalf("%v, %v: %v is not accepted: %d", m, q, a, e)
			}
			if text, e := run.Text(m, a.Run); e == api.OK {
				if back, e := run.Parse(m, text); e != api.OK || len(back) != len(a.Run) {
					t.Fatalf("Parse of %q gives %v, %d", text, back, e)
				}
			}
		}
	}
	if len(decided) < 35 {
		t.Errorf("only these answers came: %d %v", len(decided), decided)
	}
	compatible(t, r)
}

// compatible checks T3: what a step does can be done from a greater configuration, after losses.
func compatible(t *testing.T, r *rand.Rand) {
	for n := range 300 {
		m := randomModel(r, 1+n%5)
		ty, _ := model.Type(m)
		a, b := wander(r, m), wander(r, m)
		if !order.Leq(ty, a, b) {
			continue
		}
		steps, _ := step.All(m, a)
		below := b
		if l, e := step.Down(m, b, a); e == api.OK && len(l) > 0 {
			below = l[len(l)-1]
		}
		for _, s := range steps {
			behind, e := step.Apply(m, s.Rule, below)
			found := e != api.OK
			for _, c := range behind {
				found = found || order.Leq(ty, s.Config, c)
			}
			if !found {
				t.Fatalf("%v: from %v to %v, but not from %v", m, a, s, b)
			}
		}
	}
}
