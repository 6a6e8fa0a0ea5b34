package cover

import (
	"testing"

	"coverability/api"
	"coverability/backward"
	"coverability/order"
	"coverability/syntax"
	"coverability/values"
)

func parse(text string) api.Model {
	m, line, e := syntax.Parse(text)
	if e != api.OK {
		panic([]any{text, line, e})
	}
	return m
}

func val(s string) api.Value {
	v, e := order.Parse(s)
	if e != api.OK {
		panic(s)
	}
	return v
}

func vals(l ...string) []api.Value {
	var out []api.Value
	for _, s := range l {
		out = append(out, val(s))
	}
	return out
}

func steps(l ...any) []api.Step {
	var out []api.Step
	for i := 0; i < len(l); i += 2 {
		out = append(out, api.Step{Rule: l[i].(int), Config: val(l[i+1].(string))})
	}
	return out
}

func counters() api.Model {
	return parse("model counter\nstates a\nplaces x\nrule r a -> a need x 2 give x 3\nstart 0(0 2)")
}

func lossy() api.Model {
	return parse("model lossy\nstates a b\nplaces c\nletters l k\nrule put a -> a send c l\nrule end a -> b send c k\nrule get b -> b receive c l\nrule back b -> a receive c k\nstart 0(0 0)")
}

func branching() api.Model { return parse("model branching\nstates a\nplaces x") }

// TestDecide checks P27.1 and P27.2 by hand.
func TestDecide(t *testing.T) {
	small := counters()
	small.Start = val("0(0 1)")
	for _, x := range []struct {
		m       api.Model
		targets []api.Value
		budget  int
		want    api.Cover
		e       api.Errno
	}{
		{counters(), vals("0(0 4)"), 9, api.Cover{Decided: true, Yes: true, Run: steps(0, "0(0 3)", 0, "0(0 4)"), Used: 2}, api.OK}, {counters(), vals("0(0 4)"), 1, api.Cover{Used: 1}, api.OK}, {counters(), vals("0(0 4)"), -1, api.Cover{}, api.OK},
		{small, vals("0(0 2)"), 9, api.Cover{Decided: true, Basis: vals("0(0 2)"), Used: 1}, api.OK}, {small, vals("0(0 2)"), 0, api.Cover{}, api.OK}, {small, vals("0(0 2)"), 1, api.Cover{Decided: true, Basis: vals("0(0 2)"), Used: 1}, api.OK},
		{small, vals("0(0 1)"), 0, api.Cover{Decided: true, Yes: true}, api.OK}, {small, nil, 0, api.Cover{Decided: true}, api.OK}, {small, vals("0(0 9)", "0(0 0)"), 5, api.Cover{Decided: true, Yes: true}, api.OK},
		{branching(), nil, 5, api.Cover{}, api.ErrKind}, {small, vals("7"), 5, api.Cover{}, api.ErrValue}, {api.Model{}, nil, 5, api.Cover{}, api.ErrKind},
	} {
		if c, e := Decide(x.m, x.targets, x.budget); e != x.e || !Same(c, x.want) {
			t.Errorf("Decide(%v, %d) gives %v, %d", x.targets, x.budget, c, e)
		}
	}
	many := parse("model counter\nstates a\nplaces x y\nrule r a -> a move x x move y x\nstart 0(0 0 0)")
	if c, e := Decide(many, vals("0(0 300 0)"), 5); e != api.ErrLimit || !Same(c, api.Cover{}) {
		t.Errorf("Decide beyond a limit gives %v, %d", c, e)
	}
	long := parse("model counter\nstates a\nplaces x\nrule r a -> a give x 1\nstart 0(0 0)")
	if c, e := Decide(long, vals("0(0 65)"), 100); e != api.ErrLimit || !Same(c, api.Cover{}) {
		t.Errorf("Decide with too long a run gives %v, %d", c, e)
	}
	s, _ := backward.Start(long, vals("0(0 65)"))
	if c, e := Finish(long, s); e != api.OK || !Same(c, api.Cover{}) {
		t.Errorf("Finish gives %v, %d", c, e)
	}
	s, _, _ = backward.Run(long, s, 100)
	if _, e := Finish(long, s); e != api.ErrLimit {
		t.Errorf("Finish gives %d", e)
	}
}

// TestProves checks P27.3: runs.
func TestProves(t *testing.T) {
	l := steps(0, "0(0 3)", 0, "0(0 4)")
	for _, x := range []struct {
		m       api.Model
		targets []api.Value
		l       []api.Step
		e       api.Errno
	}{
		{counters(), vals("0(0 4)"), l, api.OK}, {counters(), vals("0(0 9)", "0(0 3)"), l, api.OK}, {counters(), vals("0(0 5)"), l, api.ErrTarget}, {counters(), nil, l, api.ErrTarget}, {counters(), vals("7"), l, api.ErrTarget}, {counters(), vals("0(0 2)"), nil, api.OK},
		{counters(), vals("0(0 4)"), steps(0, "0(0 4)"), api.ErrRun}, {counters(), nil, make([]api.Step, 65), api.ErrLimit}, {branching(), nil, nil, api.ErrKind},
	} {
		if e := Proves(x.m, x.targets, x.l); e != x.e {
			t.Errorf("Proves(%v, %v) gives %d", x.targets, x.l, e)
		}
	}
}

// TestRefutes checks P27.3: bases.
func TestRefutes(t *testing.T) {
	small := counters()
	small.Start = val("0(0 1)")
	for _, x := range []struct {
		m          api.Model
		targets, b []api.Value
		e          api.Errno
	}{
		{small, vals("0(0 2)"), vals("0(0 2)"), api.OK}, {small, vals("0(0 5)", "0(0 2)"), vals("0(0 2)"), api.OK}, {small, nil, nil, api.OK}, {small, vals("0(0 1)"), vals("0(0 2)"), api.ErrTarget}, {small, vals("7"), vals("0(0 2)"), api.ErrTarget},
		{small, vals("0(0 3)"), vals("0(0 3)"), api.ErrOpen}, {counters(), vals("0(0 2)"), vals("0(0 2)"), api.ErrBegin}, {counters(), vals("0(0 0)"), vals("0(0 3)"), api.ErrTarget}, {small, nil, vals("0(0 3)", "0(0 2)"), api.ErrOrder},
		{small, nil, vals("7"), api.ErrValue}, {branching(), nil, vals("7"), api.ErrKind}, {api.Model{Kind: 1}, nil, nil, api.ErrLimit},
	} {
		if e := Refutes(x.m, x.targets, x.b); e != x.e {
			t.Errorf("Refutes(%v, %v) gives %d", x.targets, x.b, e)
		}
	}
	many := parse("model counter\nstates a\nplaces x y\nrule r a -> a move x x move y x\nstart 0(0 0 0)")
	if e := Refutes(many, nil, vals("0(0 300 0)")); e != api.ErrLimit {
		t.Errorf("Refutes beyond a limit gives %d", e)
	}
}

// TestAnswers checks the consequences: an answer is accepted, the opposite one never, and a greater budget keeps it.
func TestAnswers(t *testing.T) {
	for _, x := range []struct {
		m       api.Model
		targets []string
	}{
		{counters(), []string{"0(0 0)", "0(0 3)", "0(0 9)"}}, {lossy(), []string{"0(0 0(0))", "0(0 0(1))", "0(1 0(0 1))", "0(1 0(1 0))", "0(1 0(1 1))", "0(0 0(0 0 0))"}},
		{parse("model priority\nstates a b\nplaces c\nletters l 0 k 1\nrule put a -> b send c l\nrule more b -> a send c k\nrule get a -> a receive c k\nstart 0(0 0)"), []string{"0(0 0(0 1))", "0(0 0(1 1))", "0(1 0(1 0))", "0(1 0(0 1))", "0(0 0)"}},
		{parse("model timed\nstates a b\nplaces x\nage 1\nrule new a -> a make x\nrule old a -> b take x 2 2\nstart 0(0 0)"), []string{"0(1 0)", "0(1 0(0(0 0)))", "0(1 0(0(0 1)))", "0(0 0(0(0 0) 0(0 2)))"}},
		{parse("model nested\nstates a b\nletters l k\nlevels 2\nrule grow a -> a next l\nrule child a -> a path l next l k\nrule cut a -> b path l k next k\nstart 0(0 0)"), []string{"0(1 0(0(1 0)))", "0(1 0(0(1 0(0))))", "0(0 0(0(0 0(1 1))))", "0(0 0(0(1 0)))"}},
	} {
		for _, s := range x.targets {
			target := vals(s)
			c, e := Decide(x.m, target, 200)
			if e != api.OK || !c.Decided {
				t.Errorf("Decide(%s) gives %v, %d", s, c, e)
				continue
			}
			proved, refuted := Proves(x.m, target, c.Run), Refutes(x.m, target, c.Basis)
			if (proved == api.OK) != c.Yes || (refuted == api.OK) == c.Yes {
				t.Errorf("Decide(%s) gives %v: Proves %d, Refutes %d", s, c, proved, refuted)
			}
			if again, e := Decide(x.m, target, c.Used); e != api.OK || !Same(again, c) {
				t.Errorf("Decide(%s) with %d gives %v, %d", s, c.Used, again, e)
			}
		}
	}
	a := api.Cover{Run: steps(0, "0(0 3)")}
	if Same(a, api.Cover{}) || Same(api.Cover{Basis: vals("0")}, api.Cover{}) || !Same(api.Cover{Basis: []api.Value{}}, api.Cover{}) || !values.SameSteps(a.Run, a.Run) {
		t.Error("Same is wrong")
	}
}
