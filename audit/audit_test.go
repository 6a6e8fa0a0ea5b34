package audit

import (
	"fmt"
	"testing"

	"coverability/answer"
	"coverability/api"
	"coverability/checker"
	"coverability/model"
	"coverability/order"
	"coverability/question"
	"coverability/syntax"
	"coverability/values"
)

func parse(text string) api.Model {
	m, line, e := syntax.Parse(text)
	if e != api.OK {
		panic([]any{text, line, e})
	}
	return m
}

func val(s string) api.Value {
	v, e := order.Parse(s)
	if e != api.OK {
		panic(s)
	}
	return v
}

func vals(l ...string) []api.Value {
	var out []api.Value
	for _, s := range l {
		out = append(out, val(s))
	}
	return out
}

func up() api.Model {
	return parse("model counter\nstates a\nplaces x y\nrule r a -> a give x 1\nstart 0(0 0 0)")
}

func finite() api.Model {
	return parse("model counter\nstates a b\nplaces x y\nrule r a -> b need x 1 give y 1\nrule s b -> a need y 1\nstart 0(0 2 0)")
}

func turns() api.Model {
	return parse("model lossy\nstates a b\nplaces c\nletters l k\nrule put0 a -> a send c l\nrule turn0 a -> b receive c l\nrule put1 b -> b send c k\nrule turn1 b -> a receive c k\nstart 0(0 0)")
}

// TestExplore checks P45.1.
func TestExplore(t *testing.T) {
	high := parse("model counter\nstates a\nplaces x\nrule r a -> a give x 1\nstart 0(0 1048574)")
	many := parse("model counter\nstates a\nplaces x y z\nrule r a -> a give x 1\nrule s a -> a give y 1\nrule t a -> a give z 1\nstart 0(0 0 0 0)")
	for _, x := range []struct {
		m           api.Model
		depth, most int
		want        []api.Value
		closed      bool
		e           api.Errno
	}{
		{up(), 0, 1, vals("0(0 0 0)"), false, api.OK}, {up(), 2, 3, vals("0(0 0 0)", "0(0 1 0)", "0(0 2 0)"), false, api.OK}, {up(), 2, 2, nil, false, api.ErrLimit}, {finite(), 4, 9, vals("0(0 0 0)", "0(0 1 0)", "0(0 2 0)", "0(1 0 1)", "0(1 1 1)"), true, api.OK}, {finite(), 16, 5, vals("0(0 0 0)", "0(0 1 0)", "0(0 2 0)", "0(1 0 1)", "0(1 1 1)"), true, api.OK},
		{finite(), 3, 9, vals("0(0 1 0)", "0(0 2 0)", "0(1 0 1)", "0(1 1 1)"), false, api.OK}, {up(), -1, 9, nil, false, api.ErrRange}, {up(), 17, 9, nil, false, api.ErrRange}, {up(), 3, 0, nil, false, api.ErrRange}, {up(), 3, 257, nil, false, api.ErrRange}, {high, 1, 9, vals("0(0 1048574)", "0(0 1048575)"), false, api.OK}, {high, 2, 9, nil, false, api.ErrLimit},
		{many, 16, 256, nil, false, api.ErrLimit}, {parse("model branching\nstates a\nplaces x"), -1, 0, nil, false, api.ErrKind}, {api.Model{Kind: 1}, -1, 0, nil, false, api.ErrLimit},
	} {
		l, closed, e := Explore(x.m, x.depth, x.most)
		if e != x.e || closed != x.closed || !values.SameLists(l, x.want) {
			t.Errorf("Explore(%d, %d) gives %v, %v, %d", x.depth, x.most, l, closed, e)
		}
	}
	m := finite()
	l, _, _ := Explore(m, 0, 1)
	l[0].Kids[0].N = 9
	if m.Start.Kids[0].N != 0 {
		t.Error("Explore shares memory with the model")
	}
}

// TestAgrees checks P45.2.
func TestAgrees(t *testing.T) {
	yes, no := api.Answer{Decided: true, Yes: true}, api.Answer{Decided: true}
	cover := func(s string) api.Question { return api.Question{Kind: api.AskCover, Target: val(s)} }
	reach := func(s string) api.Question { return api.Question{Kind: api.AskReach, Target: val(s)} }
	limit := func(v ...int) api.Answer {
		return api.Answer{Decided: true, Yes: true, Limits: []api.Limit{{Vector: v}}}
	}
	endless := parse("model counter\nstates a\nplaces x\nrule r a -> a give x 1\nstart 0(0 1048576)")
	for i, x := range []struct {
		m     api.Model
		q     api.Question
		a     api.Answer
		depth int
		ok    bool
		e     api.Errno
	}{
		{up(), cover("0(0 1 0)"), no, 1, false, api.OK}, {up(), cover("0(0 1 0)"), no, 0, true, api.OK}, {up(), cover("0(0 1 0)"), api.Answer{}, 1, true, api.OK}, {up(), cover("0(0 9 9)"), yes, 5, true, api.OK}, {finite(), cover("0(0 9 9)"), yes, 5, false, api.OK}, {finite(), cover("0(0 9 9)"), yes, 3, true, api.OK}, {finite(), cover("0(0 1 0)"), yes, 5, true, api.OK},
		{finite(), reach("0(0 1 0)"), no, 5, false, api.OK}, {finite(), reach("0(0 1 0)"), yes, 5, true, api.OK}, {finite(), reach("0(1 0 0)"), no, 5, true, api.OK}, {finite(), reach("0(1 0 0)"), yes, 5, false, api.OK}, {finite(), reach("0(1 0 0)"), yes, 1, true, api.OK},
		{finite(), api.Question{Kind: api.AskDead}, no, 5, false, api.OK}, {finite(), api.Question{Kind: api.AskDead}, no, 3, true, api.OK}, {finite(), api.Question{Kind: api.AskDead}, yes, 5, true, api.OK}, {turns(), api.Question{Kind: api.AskDead}, no, 3, true, api.OK}, {parse("model counter\nstates a\nplaces x\nrule r a -> a\nstart 0(0 0)"), api.Question{Kind: api.AskDead}, yes, 3, false, api.OK},
		{up(), api.Question{Kind: api.AskBounded}, limit(3, 0), 4, false, api.OK}, {up(), api.Question{Kind: api.AskBounded}, limit(3, 0), 3, true, api.OK}, {up(), api.Question{Kind: api.AskPlace, Place: 1}, limit(api.Omega, 0), 9, true, api.OK}, {up(), api.Question{Kind: api.AskPlace, Place: 1}, limit(2, 0), 9, false, api.OK}, {up(), api.Question{Kind: api.AskPlace}, no, 9, true, api.OK}, {up(), api.Question{Kind: api.AskBounded}, yes, 1, false, api.OK},
		{up(), api.Question{Kind: api.AskHome}, yes, 9, true, api.OK}, {endless, cover("0(0 0)"), no, 9, true, api.OK}, {up(), api.Question{Kind: 9}, no, 99, false, api.ErrAsk}, {up(), cover("0(0 0 0)"), api.Answer{}, 17, false, api.ErrRange}, {up(), cover("0(0 0 0)"), api.Answer{}, -1, false, api.ErrRange},
	} {
		if ok, e := Agrees(x.m, x.q, x.a, x.depth); ok != x.ok || e != x.e {
			t.Errorf("%d: Agrees gives %v, %d", i, ok, e)
		}
	}
}

// TestBoth checks P45.3.
func TestBoth(t *testing.T) {
	cover := func(s string) api.Question { return api.Question{Kind: api.AskCover, Target: val(s)} }
	for i, x := range []struct {
		m      api.Model
		q      api.Question
		budget int
		ok     bool
		e      api.Errno
	}{
		{up(), cover("0(0 5 0)"), 99, true, api.OK}, {up(), cover("0(0 5 1)"), 99, true, api.OK}, {up(), cover("0(0 5 1)"), 0, true, api.OK}, {up(), cover("0(0 5 1)"), -1, true, api.OK}, {up(), cover("0(0 99 0)"), 999, true, api.OK}, {turns(), cover("0(1 0(0 1))"), 99, true, api.OK}, {turns(), cover("0(0 0(0 1 0 1 0 1))"), 99, true, api.OK},
		{parse("model timed\nstates a\nplaces x\nage 1\nstart 0(0 0)"), cover("0(0 0(0(0 0)))"), 9, true, api.OK}, {up(), api.Question{Kind: api.AskDead}, 9, false, api.ErrAsk}, {up(), api.Question{}, 9, false, api.ErrAsk}, {api.Model{}, cover("0"), 9, false, api.ErrKind},
	} {
		if ok, e := Both(x.m, x.q, x.budget); ok != x.ok || e != x.e {
			t.Errorf("%d: Both gives %v, %d", i, ok, e)
		}
	}
	grown := tree{limits: []api.Limit{{Vector: []int{1}}}}
	clouds := sky{m: turns(), clouds: []api.Cloud{{Words: make([][]api.Term, 1)}}}
	for _, x := range []struct {
		way    second
		target string
		yes    bool
		ok     bool
	}{{grown, "0(0 1)", true, true}, {grown, "0(0 1)", false, false}, {grown, "0(0 2)", true, false}, {grown, "0(0 2)", false, true}, {clouds, "0(0 0)", true, true}, {clouds, "0(0 0)", false, true}, {clouds, "0(1 0)", true, false}, {clouds, "0(1 0)", false, true}} {
		if x.way.allows(val(x.target), x.yes) != x.ok {
			t.Errorf("%s, %v is not %v", x.target, x.yes, x.ok)
		}
	}
}

// TestSample checks P45.4 by hand, and that all samples are valid.
func TestSample(t *testing.T) {
	for _, seed := range []int{-1, 1<<30 + 1} {
		if m := Sample(seed); !model.Same(m, api.Model{}) {
			t.Errorf("Sample(%d) gives %v", seed, m)
		}
	}
	for _, seed := range []int{0, 1, 12345, 1 << 30} {
		x := seed + 1
		var y []int
		for range 60 {
			y = append(y, x/8)
			x = x * 48271 % (1<<31 - 1)
		}
		next := func(n int) int {
			z := y[0] % n
			y = y[1:]
			return z
		}
		states, places, rules := 1+next(3), 1+next(3), 1+next(4)
		m := Sample(seed)
		if len(m.States) != states || len(m.Places) != places || len(m.Rules) != rules || m.States[0] != "a" || m.Places[0] != "x" {
			t.Fatalf("Sample(%d) gives %v", seed, m)
		}
		for i, r := range m.Rules {
			want := api.Rule{Name: fmt.Sprintf("r%d", i), From: next(states), To: next(states)}
			for range places {
				want.Need = append(want.Need, next(3))
				want.Give = append(want.Give, next(3))
			}
			if fmt.Sprint(r) != fmt.Sprint(want) {
				t.Errorf("Sample(%d) has the rule %v and not %v", seed, r, want)
			}
		}
		for i := range places {
			if m.Start.Kids[0].N != 0 || m.Start.Kids[1+i].N != next(4) {
				t.Errorf("Sample(%d) begins at %v", seed, m.Start)
			}
		}
	}
	shapes := map[string]bool{}
	for seed := range 500 {
		m := Sample(seed)
		if model.Check(m) != api.OK {
			t.Errorf("Sample(%d) is not valid: %v", seed, m)
		}
		shapes[fmt.Sprint(len(m.States), len(m.Places), len(m.Rules))] = true
	}
	if len(shapes) < 12 {
		t.Errorf("there are only the shapes %v", shapes)
	}
}

// TestSystem checks T7 and T10 for samples: answers agree with exploring and with one another, and the checker accepts them.
func TestSystem(t *testing.T) {
	decided := 0
	for seed := range 150 {
		m := Sample(seed * 7919)
		target := values.Counter(len(m.States)-1, make([]int, len(m.Places)))
		target.Kids[1].N = seed % 4
		for _, q := range []api.Question{{Kind: api.AskCover, Target: target}, {Kind: api.AskReach, Target: target}, {Kind: api.AskBounded}, {Kind: api.AskPlace}, {Kind: api.AskDead}, {Kind: api.AskHome}} {
			a, e := answer.Ask(m, q, 80)
			if e != api.OK {
				continue
			}
			for _, depth := range []int{0, 3, 8} {
				if ok, e := Agrees(m, q, a, depth); e != api.OK || !ok {
					t.Fatalf("%v: %v does not agree with exploring: %v", m, q, a)
				}
			}
			if ok, e := Both(m, q, 80); q.Kind == api.AskCover && (e != api.OK || !ok) {
				t.Fatalf("%v: two ways disagree about %v", m, q)
			}
			if !a.Decided {
				continue
			}
			decided++
			if e := checker.Check(m, q, a); e != api.OK {
				t.Fatalf("%v: %v is not accepted: %d", m, a, e)
			}
			text, _ := question.Text(m, q)
			if back, e := question.Parse(m, text); e != api.OK || !question.Same(back, q) {
				t.Errorf("Parse(%q) gives %v, %d", text, back, e)
			}
		}
	}
	if decided < 300 {
		t.Errorf("only %d answers were decided", decided)
	}
}

// TestLeastDepth checks P45.2: exploring falls back to the depth 0, and goes to the depth 16.
func TestLeastDepth(t *testing.T) {
	high := parse("model counter\nstates a\nplaces x\nrule r a -> a give x 1\nstart 0(0 1048575)")
	no := api.Answer{Decided: true}
	for _, depth := range []int{0, 1, 16} {
		if ok, e := Agrees(high, api.Question{Kind: api.AskCover, Target: high.Start}, no, depth); e != api.OK || ok {
			t.Errorf("Agrees with the depth %d gives %v, %d", depth, ok, e)
		}
	}
	if ok, e := Agrees(up(), api.Question{Kind: api.AskReach, Target: val("0(0 16 0)")}, no, 16); e != api.OK || ok {
		t.Errorf("Agrees with the depth 16 gives %v, %d", ok, e)
	}
}

// TestAnother checks P45.3: which models have a second way, and what it says.
func TestAnother(t *testing.T) {
	moves := parse("model counter\nstates a\nplaces x\nrule r a -> a empty x\nstart 0(0 0)")
	ages := parse("model timed\nstates a\nplaces x\nage 1\nstart 0(0 0)")
	endless := parse("model lossy\nstates a b\nplaces c\nletters l k\nrule r a -> b send c l\nrule s b -> a send c k\nstart 0(0 0)")
	high := parse("model counter\nstates a b\nplaces x\nrule r a -> b\nrule s b -> a give x 1\nstart 0(0 1048576)")
	for i, x := range []struct {
		m      api.Model
		budget int
		ok     bool
	}{{up(), 99, true}, {up(), 3, true}, {up(), 2, false}, {turns(), 99, true}, {turns(), 1, false}, {moves, 99, false}, {ages, 99, false}, {endless, 999, false}, {high, 99, false}} {
		if _, ok := another(x.m, x.budget); ok != x.ok {
			t.Errorf("%d: another gives %v", i, ok)
		}
	}
	way, _ := another(up(), 99)
	if !way.allows(val("0(0 7 0)"), true) || way.allows(val("0(0 0 1)"), true) {
		t.Error("the tree is wrong")
	}
	way, _ = another(turns(), 99)
	if !way.allows(val("0(1 0(0 1))"), true) || way.allows(val("0(0 0(0 1))"), true) {
		t.Error("the clouds are wrong")
	}
}
