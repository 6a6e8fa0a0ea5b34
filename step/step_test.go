package step

import (
	"strings"
	"testing"

	"coverability/api"
	"coverability/order"
	"coverability/syntax"
	"coverability/values"
)

func parse(text string) api.Model {
	m, line, e := syntax.Parse(text)
	if e != api.OK {
		panic([]any{text, line, e})
	}
	return m
}

func val(s string) api.Value {
	v, e := order.Parse(s)
	if e != api.OK {
		panic(s)
	}
	return v
}

func vals(l ...string) []api.Value {
	var out []api.Value
	for _, s := range l {
		out = append(out, val(s))
	}
	return out
}

func counters() api.Model {
	return parse("model counter\nstates a\nplaces x\nrule up a -> a give x 1\nrule down a -> a need x 1\nstart 0(0 1)")
}

func lossy() api.Model {
	return parse("model lossy\nstates a\nplaces c\nletters l k\nrule put a -> a send c l\nrule get a -> a receive c k\nstart 0(0 0)")
}

func nests() api.Model {
	return parse("model nested\nstates a\nletters l\nlevels 1\nrule more a -> a next l\nrule less a -> a path l\nstart 0(0 0)")
}

func ages() api.Model {
	return parse("model timed\nstates a\nplaces x\nage 0\nrule old a -> a take x 1 1\nrule both a -> a take x 0 1\nstart 0(0 0(0(0 0)))")
}

// TestApply checks P22.1, kind by kind.
func TestApply(t *testing.T) {
	full := "0(0 0 0 0 0 0 0 0 0 0 0 0)"
	for _, x := range []struct {
		m    api.Model
		rule int
		c    string
		want []api.Value
		e    api.Errno
	}{
		{counters(), -1, "0(0 1)", nil, api.OK}, {counters(), 0, "0(0 1)", vals("0(0 2)"), api.OK}, {counters(), 1, "0(0 0)", nil, api.OK}, {counters(), 0, "0(0 1048576)", nil, api.ErrLimit},
		{lossy(), -1, "0(0 0(0 1))", vals("0(0 0(0))", "0(0 0(1))"), api.OK}, {lossy(), 0, "0(0 0(1))", vals("0(0 0(1 0))"), api.OK}, {lossy(), 1, "0(0 0(0))", nil, api.OK}, {lossy(), 0, "0(0 " + full + ")", nil, api.ErrLimit},
		{nests(), -1, "0(0 0(0))", nil, api.OK}, {nests(), 0, "0(0 0(0))", vals("0(0 0(0 0))"), api.OK}, {nests(), 1, "0(0 0)", nil, api.OK}, {nests(), 0, "0(0 " + full + ")", nil, api.ErrLimit},
		{ages(), -1, "0(0 0(0(0 0)))", vals("0(0 0(0(0 1)))"), api.OK}, {ages(), 0, "0(0 0(0(0 0)))", nil, api.OK}, {ages(), 1, "0(0 0(0(0 0) 0(0 1)))", vals("0(0 0(0(0 0)))", "0(0 0(0(0 1)))"), api.OK},
		{counters(), 2, "0", nil, api.ErrRule}, {counters(), -2, "0", nil, api.ErrRule}, {counters(), -1, "0", nil, api.ErrConfig}, {ages(), 0, "0", nil, api.ErrConfig},
	} {
		l, e := Apply(x.m, x.rule, val(x.c))
		if e != x.e || !values.SameLists(l, x.want) {
			t.Errorf("kind %d: Apply(%d, %s) gives %v, %d", x.m.Kind, x.rule, x.c, l, e)
		}
		if x.rule == -1 {
			if q, e := Quiet(x.m, val(x.c)); e != x.e || !values.SameLists(q, x.want) {
				t.Errorf("kind %d: Quiet(%s) gives %v, %d", x.m.Kind, x.c, q, e)
			}
		}
	}
	branching := parse("model branching\nstates a\nplaces x")
	for _, x := range []struct {
		m api.Model
		e api.Errno
	}{{branching, api.ErrKind}, {api.Model{Kind: 1}, api.ErrLimit}} {
		_, e1 := Apply(x.m, 9, val("0"))
		_, e2 := Quiet(x.m, val("0"))
		_, e3 := All(x.m, val("0"))
		_, e4 := Down(x.m, val("0"), val("0"))
		if e1 != x.e || e2 != x.e || e3 != x.e || e4 != x.e {
			t.Errorf("errors %d, %d, %d, %d", e1, e2, e3, e4)
		}
	}
}

// TestAll checks P22.2: all steps in order, and errors.
func TestAll(t *testing.T) {
	l, e := All(lossy(), val("0(0 0(1 0))"))
	want := []api.Step{{Rule: -1, Config: val("0(0 0(0))")}, {Rule: -1, Config: val("0(0 0(1))")}, {Rule: 0, Config: val("0(0 0(1 0 0))")}, {Rule: 1, Config: val("0(0 0(0))")}}
	if e != api.OK || !values.SameSteps(l, want) {
		t.Errorf("All gives %v, %d", l, e)
	}
	if l, e := All(counters(), val("0(0 1048576)")); e != api.ErrLimit || l != nil {
		t.Errorf("All gives %v, %d", l, e)
	}
	if _, e := All(counters(), val("0(0)")); e != api.ErrConfig {
		t.Errorf("All gives %d", e)
	}
	if _, e := Quiet(counters(), val("0(0)")); e != api.ErrConfig {
		t.Errorf("Quiet gives %d", e)
	}
	// Twelve rules that each take two of twelve different tokens have too many choices together.
	var text strings.Builder
	text.WriteString("model timed\nstates a\nplaces u v w\nage 2\n")
	for i := range 12 {
		text.WriteString("rule r" + string(rune('a'+i)) + " a -> a take u 0 3 take v 0 3 take w 0 3\n")
	}
	text.WriteString("start 0(0 0(0(0 0) 0(0 1) 0(0 2) 0(0 3) 0(1 0) 0(1 1) 0(1 2) 0(1 3) 0(2 0) 0(2 1) 0(2 2) 0(2 3)))\n")
	many := parse(text.String())
	if l, e := Apply(many, 0, many.Start); e != api.OK || len(l) != 64 {
		t.Errorf("Apply gives %d, %d", len(l), e)
	}
	if l, e := All(many, many.Start); e != api.ErrLimit || l != nil {
		t.Errorf("All of too many gives %d, %d", len(l), e)
	}
}

// TestDownAndLeq checks P22.3.
func TestDownAndLeq(t *testing.T) {
	for _, x := range []struct {
		m        api.Model
		from, to string
		want     []api.Value
		e        api.Errno
		leq      bool
	}{
		{lossy(), "0(0 0(0 1))", "0(0 0)", vals("0(0 0(0))", "0(0 0)"), api.OK, true}, {lossy(), "0(0 0(0))", "0(0 0(1))", nil, api.ErrNone, false}, {counters(), "0(0 3)", "0(0 3)", nil, api.OK, true},
		{counters(), "0(0 3)", "0(0 2)", nil, api.ErrNone, true}, {nests(), "0(0 0)", "0(0 0(0))", nil, api.ErrNone, false}, {ages(), "0(0 0(0(0 0)))", "0(0 0(0(0 0)))", nil, api.OK, true},
	} {
		if l, e := Down(x.m, val(x.from), val(x.to)); e != x.e || !values.SameLists(l, x.want) {
			t.Errorf("Down(%s, %s) gives %v, %d", x.from, x.to, l, e)
		}
		if ok, e := Leq(x.m, val(x.to), val(x.from)); e != api.OK || ok != x.leq {
			t.Errorf("Leq(%s, %s) gives %v, %d", x.to, x.from, ok, e)
		}
	}
	if _, e := Down(lossy(), val("0"), val("0(0 0)")); e != api.ErrConfig {
		t.Errorf("Down gives %d", e)
	}
	if _, e := Down(counters(), val("0(0 0)"), val("0")); e != api.ErrConfig {
		t.Errorf("Down gives %d", e)
	}
	branching := parse("model branching\nstates a\nplaces x")
	if ok, e := Leq(branching, val("0(0 1)"), val("0(0 2)")); e != api.OK || !ok {
		t.Errorf("Leq gives %v, %d", ok, e)
	}
	if _, e := Leq(branching, val("0"), val("0(0 2)")); e != api.ErrConfig {
		t.Errorf("Leq gives %d", e)
	}
	if _, e := Leq(branching, val("0(0 2)"), val("0")); e != api.ErrConfig {
		t.Errorf("Leq gives %d", e)
	}
	if _, e := Leq(api.Model{}, val("0"), val("0")); e != api.ErrKind {
		t.Errorf("Leq gives %d", e)
	}
}

// TestMost checks P22.2: just as many steps as there may be, and that errors come alone.
func TestMost(t *testing.T) {
	// Tokens of four ages are in each of three places; a rule is given by how many ages of each place it can take.
	m := parse("model timed\nstates a\nplaces u v w\nage 2\nstart 0(0 0(0(0 0) 0(0 1) 0(0 2) 0(0 3) 0(1 0) 0(1 1) 0(1 2) 0(1 3) 0(2 0) 0(2 1) 0(2 2) 0(2 3)))\n")
	add := func(ages ...int) {
		r := api.Rule{Name: "r" + string(rune('a'+len(m.Rules)))}
		for place, n := range ages {
			r.Takes = append(r.Takes, api.Take{Place: place, High: n - 1})
		}
		m.Rules = append(m.Rules, r)
	}
	add(4, 4, 4)
	add(4, 4, 4)
	add(4, 4, 4)
	add(4, 4, 3)
	add(3, 4)
	if l, e := All(m, m.Start); e != api.OK || len(l) != 1+64+64+64+48+12 {
		t.Errorf("All gives %d, %d", len(l), e)
	}
	add(3)
	if l, e := All(m, m.Start); e != api.OK || len(l) != api.MaxChoices {
		t.Errorf("All gives %d, %d", len(l), e)
	}
	add(1)
	if l, e := All(m, m.Start); e != api.ErrLimit || l != nil {
		t.Errorf("All gives %d, %d", len(l), e)
	}
	if ok, e := Leq(api.Model{}, val("0"), val("0")); e != api.ErrKind || ok {
		t.Errorf("Leq gives %v, %d", ok, e)
	}
	if ok, e := Leq(counters(), val("0"), val("0")); e != api.ErrConfig || ok {
		t.Errorf("Leq gives %v, %d", ok, e)
	}
}
