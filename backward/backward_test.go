package backward

import (
	"testing"

	"coverability/api"
	"coverability/basis"
	"coverability/model"
	"coverability/order"
	"coverability/predecessor"
	"coverability/run"
	"coverability/step"
	"coverability/syntax"
	"coverability/values"
)

func parse(text string) api.Model {
	m, line, e := syntax.Parse(text)
	if e != api.OK {
		panic([]any{text, line, e})
	}
	return m
}

func val(s string) api.Value {
	v, e := order.Parse(s)
	if e != api.OK {
		panic(s)
	}
	return v
}

func vals(l ...string) []api.Value {
	var out []api.Value
	for _, s := range l {
		out = append(out, val(s))
	}
	return out
}

func counters() api.Model {
	return parse("model counter\nstates a b\nplaces x y\nrule r a -> b need x 2 give y 1\nrule s b -> a need y 1 give x 1\nrule t a -> a need x 1 give y 2\nstart 0(0 3 0)")
}

func lossy() api.Model {
	return parse("model lossy\nstates a b\nplaces c\nletters l k\nrule put a -> a send c l\nrule end a -> b send c k\nrule get b -> b receive c l\nrule back b -> a receive c k\nstart 0(0 0)")
}

func ranked() api.Model {
	return parse("model priority\nstates a b\nplaces c\nletters l 0 k 1\nrule put a -> a send c l\nrule end a -> b send c k\nrule get b -> b receive c l\nrule back b -> a receive c k\nstart 0(0 0)")
}

func ages() api.Model {
	return parse("model timed\nstates a b\nplaces x\nage 1\nrule new a -> a make x\nrule old a -> b take x 2 2\nstart 0(0 0)")
}

func nests() api.Model {
	return parse("model nested\nstates a\nletters l k\nlevels 2\nrule grow a -> a next l\nrule child a -> a path l next l k\nrule cut a -> a path l k next k\nstart 0(0 0)")
}

// TestExample checks P25.1 and P25.2 step by step.
func TestExample(t *testing.T) {
	m := parse("model counter\nstates a\nplaces x\nrule r a -> a need x 2 give x 3\nstart 0(0 1)")
	s, e := Start(m, vals("0(0 3)", "0(0 4)"))
	want := api.Search{Basis: vals("0(0 3)"), Front: vals("0(0 3)"), Origins: []api.Origin{{Value: val("0(0 3)"), Rule: -2}}}
	if e != api.OK || !Same(s, want) || Done(s) || Hit(m, s) {
		t.Fatalf("Start gives %v, %d", s, e)
	}
	next, ok, e := Step(m, s)
	want2 := api.Search{Basis: vals("0(0 2)"), Front: vals("0(0 2)"), Origins: []api.Origin{{Value: val("0(0 3)"), Rule: -2}, {Value: val("0(0 2)"), Rule: 0, Next: val("0(0 3)")}}, Used: 1}
	if e != api.OK || !ok || !Same(next, want2) || !Same(s, want) {
		t.Fatalf("Step gives %v, %v, %d", next, ok, e)
	}
	last, ok, e := Step(m, next)
	if e != api.OK || !ok || !Done(last) || last.Used != 2 || len(last.Origins) != 2 {
		t.Fatalf("Step gives %v, %v, %d", last, ok, e)
	}
	if again, ok, e := Step(m, last); e != api.OK || ok || !Same(again, last) {
		t.Errorf("Step of a search that is done gives %v, %v, %d", again, ok, e)
	}
	for budget, n := range map[int]int{-1: 0, 0: 0, 1: 1, 2: 2, 9: 2} {
		if r, k, e := Run(m, s, budget); e != api.OK || k != n || r.Used != n {
			t.Errorf("Run with %d gives %v, %d, %d", budget, r, k, e)
		}
	}
	next.Basis[0].Kids[0].N = 9
	if next.Front[0].Kids[0].N == 9 || next.Origins[1].Value.Kids[0].N == 9 {
		t.Error("a search shares memory with itself")
	}
}

// TestSkipped checks P25.2: a value that is in the basis no more is taken out of the front, and nothing else happens.
func TestSkipped(t *testing.T) {
	m := parse("model counter\nstates a\nplaces x y\nrule r a -> a need x 1 give y 2\nrule s a -> a need x 1 give y 3\nstart 0(0 0 0)")
	s, _ := Start(m, vals("0(0 0 3)"))
	s, _, _ = Run(m, s, 1)
	if len(s.Front) != 2 || len(s.Basis) != 2 || !values.Same(s.Front[0], val("0(0 1 1)")) {
		t.Fatalf("Run gives %v", s)
	}
	next, ok, e := Step(m, s)
	if e != api.OK || !ok || next.Used != 2 || len(next.Front) != 1 || len(next.Origins) != 3 {
		t.Errorf("Step gives %v, %v, %d", next, ok, e)
	}
}

// TestErrors checks the errors of P25.1, P25.2 and P25.3.
func TestErrors(t *testing.T) {
	branching := parse("model branching\nstates a\nplaces x")
	for _, x := range []struct {
		m api.Model
		l []api.Value
		e api.Errno
	}{{branching, nil, api.ErrKind}, {api.Model{Kind: 1}, nil, api.ErrLimit}, {counters(), vals("0"), api.ErrValue}, {counters(), nil, api.OK}} {
		s, e := Start(x.m, x.l)
		if e != x.e || s.Basis != nil || s.Front != nil {
			t.Errorf("Start gives %v, %d", s, e)
		}
	}
	given := api.Search{Basis: vals("0(0 1 1)"), Front: vals("0(0 1 1)"), Used: 4}
	if s, ok, e := Step(branching, given); e != api.ErrKind || ok || !Same(s, given) {
		t.Errorf("Step gives %v, %v, %d", s, ok, e)
	}
	if s, n, e := Run(api.Model{}, given, 3); e != api.ErrKind || n != 0 || !Same(s, given) {
		t.Errorf("Run gives %v, %d, %d", s, n, e)
	}
	many := parse("model counter\nstates a\nplaces x y\nrule r a -> a move x x move y x\nrule s a -> a need y 1\nstart 0(0 0 0)")
	start, _ := Start(many, vals("0(0 300 0)"))
	if s, ok, e := Step(many, start); e != api.ErrLimit || ok || !Same(s, start) {
		t.Errorf("Step beyond a limit gives %v, %v, %d", s, ok, e)
	}
	if s, n, e := Run(many, start, 9); e != api.ErrLimit || n != 0 || !Same(s, start) {
		t.Errorf("Run beyond a limit gives %v, %d, %d", s, n, e)
	}
	if _, e := Trail(branching, given, val("0")); e != api.ErrKind {
		t.Errorf("Trail gives %d", e)
	}
	if _, e := Trail(counters(), given, val("0")); e != api.ErrConfig {
		t.Errorf("Trail gives %d", e)
	}
	if l, e := Trail(counters(), given, val("0(0 1 1)")); e != api.ErrNone || l != nil {
		t.Errorf("Trail without origins gives %v, %d", l, e)
	}
	long := parse("model counter\nstates a\nplaces x\nrule r a -> a give x 1\nstart 0(0 0)")
	s, _ := Start(long, vals("0(0 64)"))
	s, _, _ = Run(long, s, 100)
	if l, e := Trail(long, s, val("0(0 0)")); e != api.OK || len(l) != 64 {
		t.Errorf("Trail gives %d steps, %d", len(l), e)
	}
	s, _ = Start(long, vals("0(0 65)"))
	s, _, _ = Run(long, s, 100)
	if l, e := Trail(long, s, val("0(0 0)")); e != api.ErrLimit || l != nil {
		t.Errorf("Trail gives %d steps, %d", len(l), e)
	}
	s, _ = Start(long, vals("0(0 600)"))
	full, n, e := Run(long, s, 1000)
	if e != api.ErrLimit || n != 511 || len(full.Origins) != api.MaxOrigins || full.Used != 511 || len(full.Front) != 1 {
		t.Errorf("Run with too many origins gives %d, %d", n, e)
	}
	if again, ok, e := Step(long, full); e != api.ErrLimit || ok || !Same(again, full) {
		t.Errorf("Step with too many origins gives %v, %d", ok, e)
	}
	s, _ = Start(long, vals("0(0 65)"))
	s, _, _ = Run(long, s, 100)
	if Hit(api.Model{}, s) || !Hit(long, s) {
		t.Error("Hit is wrong")
	}
}

// TestTrail checks P25.3 by hand: a lossy run goes down before each step.
func TestTrail(t *testing.T) {
	m := lossy()
	s, _ := Start(m, vals("0(1 0(1))"))
	s, _, _ = Run(m, s, 100)
	l, e := Trail(m, s, val("0(0 0(0 0))"))
	want := []api.Step{{Rule: -1, Config: val("0(0 0(0))")}, {Rule: -1, Config: val("0(0 0)")}, {Rule: 1, Config: val("0(1 0(1))")}}
	if e != api.OK || !values.SameSteps(l, want) {
		t.Fatalf("Trail gives %v, %d", l, e)
	}
	if l, e := Trail(m, s, val("0(1 0(0 1))")); e != api.OK || len(l) != 0 {
		t.Errorf("Trail from above the target gives %v, %d", l, e)
	}
	c := counters()
	s, _ = Start(c, vals("0(1 0 1)"))
	s, _, _ = Run(c, s, 100)
	if l, e := Trail(c, s, val("0(0 5 0)")); e != api.OK || !values.SameSteps(l, []api.Step{{Rule: 0, Config: val("0(1 3 1)")}}) {
		t.Errorf("Trail gives %v, %d", l, e)
	}
}

// covers reports whether a run from a configuration leads above a target, by exploring.
func covers(m api.Model, ty api.Type, from, target api.Value) bool {
	seen := []api.Value{from}
	for i := 0; i < len(seen) && len(seen) < 3000; i++ {
		if order.Leq(ty, target, seen[i]) {
			return true
		}
		l, _ := step.All(m, seen[i])
		for _, s := range l {
			found := false
			for _, v := range seen {
				found = found || values.Same(v, s.Config)
			}
			if !found && order.Size(s.Config) < 14 {
				seen = append(seen, s.Config)
			}
		}
	}
	return false
}

// TestClosed checks the consequences: when the front is empty the set is closed, Trail leads from all of it to a target, and exploring agrees.
func TestClosed(t *testing.T) {
	for _, x := range []struct {
		m       api.Model
		targets []api.Value
		from    []api.Value
	}{
		{counters(), vals("0(0 0 3)", "0(1 1 1)"), vals("0(0 3 0)", "0(0 1 0)", "0(0 0 2)", "0(0 1 1)", "0(1 0 0)", "0(1 0 1)", "0(1 0 2)", "0(0 2 0)")},
		{lossy(), vals("0(0 0(1 0))"), vals("0(0 0)", "0(1 0)", "0(1 0(0 0))", "0(1 0(0 1))")},
		{ranked(), vals("0(0 0(1 0))", "0(1 0(0 1))"), vals("0(0 0)", "0(1 0)", "0(1 0(0 0))", "0(1 0(0 1))", "0(1 0(1 1))")},
		{ages(), vals("0(1 0(0(0 1)))"), vals("0(0 0)", "0(1 0)", "0(1 0(0(0 0)))", "0(1 0(0(0 2)))")},
		{nests(), vals("0(0 0(0(1 0)))", "0(0 0(0(0 0(1 1))))"), vals("0(0 0)", "0(0 0(0(0 0)))")},
	} {
		ty, _ := model.Type(x.m)
		s, e1 := Start(x.m, x.targets)
		s, _, e2 := Run(x.m, s, 1000)
		if e1 != api.OK || e2 != api.OK || !Done(s) || basis.Check(ty, s.Basis) != api.OK {
			t.Fatalf("kind %d: %v, %d, %d", x.m.Kind, s, e1, e2)
		}
		all, e := predecessor.All(x.m, s.Basis)
		if e != api.OK || !basis.Subset(ty, all, s.Basis) {
			t.Errorf("kind %d: the set is not closed", x.m.Kind)
		}
		for _, c := range append(x.from, s.Basis...) {
			in, reached := basis.Has(ty, s.Basis, c), false
			for _, target := range x.targets {
				reached = reached || covers(x.m, ty, c, target)
			}
			if in != reached {
				t.Errorf("kind %d: %v is in the set: %v, leads to a target: %v", x.m.Kind, c, in, reached)
			}
			l, e := Trail(x.m, s, c)
			if !in {
				if e != api.ErrNone {
					t.Errorf("kind %d: Trail from %v gives %d", x.m.Kind, c, e)
				}
				continue
			}
			n, e2 := run.Check(x.m, c, l)
			last := c
			if n > 0 {
				last = l[n-1].Config
			}
			above := false
			for _, target := range x.targets {
				above = above || order.Leq(ty, target, last)
			}
			if e != api.OK || e2 != api.OK || !above {
				t.Errorf("kind %d: Trail from %v gives %v, %d", x.m.Kind, c, l, e)
			}
		}
	}
}

// TestSameFields checks P25.2: searches that differ in one field.
func TestSameFields(t *testing.T) {
	origin := func(v string, rule int, next string) api.Search {
		return api.Search{Origins: []api.Origin{{Value: val(v), Rule: rule, Next: val(next)}}}
	}
	all := []api.Search{{}, {Used: 1}, {Basis: vals("1")}, {Basis: vals("2")}, {Front: vals("1")}, {Front: vals("2")}, origin("0", 0, "0"), origin("1", 0, "0"), origin("0", 1, "0"), origin("0", 0, "1")}
	for i, a := range all {
		for j, b := range all {
			if Same(a, b) != (i == j) {
				t.Errorf("Same of %v and %v is wrong", a, b)
			}
		}
	}
}

// TestTrailErrors checks P25.3: origins that say more than their steps do.
func TestTrailErrors(t *testing.T) {
	m := counters()
	for rule, want := range map[int]api.Errno{0: api.ErrNone, -1: api.ErrNone, 1: api.ErrNone, 9: api.ErrRule} {
		s := api.Search{Origins: []api.Origin{{Value: val("0(0 0 0)"), Rule: rule, Next: val("0(1 9 9)")}}}
		if l, e := Trail(m, s, val("0(0 3 0)")); e != want || l != nil {
			t.Errorf("Trail by the rule %d gives %v, %d", rule, l, e)
		}
	}
}
