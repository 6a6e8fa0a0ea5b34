package run

import (
	"slices"
	"strings"
	"testing"

	"coverability/api"
	"coverability/order"
	"coverability/syntax"
	"coverability/values"
)

func parse(text string) api.Model {
	m, line, e := syntax.Parse(text)
	if e != api.OK {
		panic([]any{text, line, e})
	}
	return m
}

func val(s string) api.Value {
	v, e := order.Parse(s)
	if e != api.OK {
		panic(s)
	}
	return v
}

func steps(l ...any) []api.Step {
	var out []api.Step
	for i := 0; i < len(l); i += 2 {
		out = append(out, api.Step{Rule: l[i].(int), Config: val(l[i+1].(string))})
	}
	return out
}

func counters() api.Model {
	return parse("model counter\nstates a\nplaces x\nrule up a -> a give x 1\nrule down a -> a need x 1\nstart 0(0 1)")
}

func lossy() api.Model {
	return parse("model lossy\nstates a\nplaces c\nletters l k\nrule put a -> a send c l\nrule get a -> a receive c k\nstart 0(0 0)")
}

func branching() api.Model { return parse("model branching\nstates a\nplaces x") }

// TestReplay checks P23.1 by hand.
func TestReplay(t *testing.T) {
	long := slices.Repeat(steps(0, "0(0 2)", 1, "0(0 1)"), 32)
	for _, x := range []struct {
		m    api.Model
		l    []api.Step
		want string
		n    int
		e    api.Errno
	}{
		{counters(), nil, "0(0 1)", 0, api.OK}, {counters(), steps(0, "0(0 2)", 1, "0(0 1)", 1, "0(0 0)"), "0(0 0)", 3, api.OK}, {counters(), steps(0, "0(0 2)", 1, "0(0 2)"), "", 1, api.ErrRun},
		{counters(), steps(2, "0(0 2)"), "", 0, api.ErrRun}, {counters(), steps(-1, "0(0 1)"), "", 0, api.ErrRun}, {counters(), steps(1, "0(0 0)", 1, "0(0 0)"), "", 1, api.ErrRun}, {counters(), steps(-2, "0(0 1)"), "", 0, api.ErrRun},
		{counters(), long, "0(0 1)", 64, api.OK}, {counters(), append(long, steps(0, "0(0 2)")...), "", 0, api.ErrLimit}, {lossy(), steps(0, "0(0 0(0))", -1, "0(0 0)", 0, "0(0 0(0))"), "0(0 0(0))", 3, api.OK},
		{lossy(), steps(0, "0(0 0(0))", 1, "0(0 0)"), "", 1, api.ErrRun}, {branching(), append(long, long...), "", 0, api.ErrKind}, {api.Model{Kind: 1}, nil, "", 0, api.ErrLimit},
	} {
		c, n, e := Replay(x.m, x.l)
		if n != x.n || e != x.e || e == api.OK && !values.Same(c, val(x.want)) || e != api.OK && len(c.Kids) > 0 {
			t.Errorf("Replay(%v) gives %v, %d, %d", x.l, c, n, e)
		}
		if n, e := Check(x.m, x.m.Start, x.l); n != x.n || e != x.e {
			t.Errorf("Check(%v) gives %d, %d", x.l, n, e)
		}
		if ok, e := Covers(x.m, x.l, x.m.Start); e != x.e || e != api.OK && ok {
			t.Errorf("Covers(%v) gives %v, %d", x.l, ok, e)
		}
	}
	if n, e := Check(counters(), val("0(0 5)"), steps(1, "0(0 4)")); n != 1 || e != api.OK {
		t.Errorf("Check gives %d, %d", n, e)
	}
	if n, e := Check(counters(), val("0(0)"), append(long, long...)); n != 0 || e != api.ErrConfig {
		t.Errorf("Check gives %d, %d", n, e)
	}
	if n, e := Check(counters(), val("0(0 1048576)"), steps(0, "0(0 1048577)")); n != 0 || e != api.ErrRun {
		t.Errorf("Check of a step beyond the limits gives %d, %d", n, e)
	}
}

// TestCovers checks P23.1: what a run covers.
func TestCovers(t *testing.T) {
	l := steps(0, "0(0 2)", 0, "0(0 3)")
	for _, x := range []struct {
		l      []api.Step
		target string
		ok     bool
		e      api.Errno
	}{{l, "0(0 3)", true, api.OK}, {l, "0(0 2)", true, api.OK}, {l, "0(0 4)", false, api.OK}, {nil, "0(0 1)", true, api.OK}, {l, "0(1 0)", false, api.ErrConfig}, {steps(0, "0(0 3)"), "0", false, api.ErrRun}} {
		if ok, e := Covers(counters(), x.l, val(x.target)); ok != x.ok || e != x.e {
			t.Errorf("Covers(%v, %s) gives %v, %d", x.l, x.target, ok, e)
		}
	}
	c, _, _ := Replay(counters(), l)
	c.Kids[1].N = 9
	if l[1].Config.Kids[1].N != 3 {
		t.Error("Replay shares memory with its argument")
	}
	m := counters()
	c, _, _ = Replay(m, nil)
	c.Kids[1].N = 9
	if m.Start.Kids[1].N != 1 {
		t.Error("Replay shares memory with the model")
	}
}

// TestText checks P23.2: texts, and what is none.
func TestText(t *testing.T) {
	l := steps(0, "0(0 0(0))", -1, "0(0 0)", 1, "0(0 0(1 0))")
	text := "put 0(0 0(0))\n0 0(0 0)\nget 0(0 0(1 0))\n"
	if s, e := Text(lossy(), l); e != api.OK || s != text {
		t.Errorf("Text gives %q, %d", s, e)
	}
	if back, e := Parse(lossy(), text); e != api.OK || !values.SameSteps(back, l) {
		t.Errorf("Parse gives %v, %d", back, e)
	}
	if s, e := Text(lossy(), nil); e != api.OK || s != "" {
		t.Errorf("Text of no steps gives %q, %d", s, e)
	}
	if l, e := Parse(lossy(), ""); e != api.OK || len(l) != 0 {
		t.Errorf("Parse of nothing gives %v, %d", l, e)
	}
	word := "0(0 0 0 0 0 0 0 0 0 0 0 0)"
	two := parse("model lossy\nstates a\nplaces c d\nletters l\nrule r_is_a_rule a -> a\nstart 0(0 0 0)")
	big := "0(0 " + word + " " + word + ")"
	for _, x := range []struct {
		m api.Model
		l []api.Step
		e api.Errno
	}{
		{branching(), make([]api.Step, 65), api.ErrKind}, {api.Model{}, nil, api.ErrKind}, {lossy(), make([]api.Step, 65), api.ErrLimit}, {lossy(), steps(2, "0"), api.ErrRule}, {lossy(), steps(-2, "0"), api.ErrRule},
		{lossy(), steps(0, "0"), api.ErrConfig}, {lossy(), steps(0, "0", 5, "0"), api.ErrConfig}, {two, slices.Repeat(steps(0, big), 58), api.ErrLimit}, {two, slices.Repeat(steps(0, big), 57), api.OK},
	} {
		s, e := Text(x.m, x.l)
		if e != x.e || e != api.OK && s != "" {
			t.Errorf("Text of %d steps gives %d bytes, %d", len(x.l), len(s), e)
		}
	}
	if _, e := Parse(lossy(), strings.Repeat("x", 5000)); e != api.ErrLimit {
		t.Errorf("Parse gives %d", e)
	}
	if _, e := Parse(branching(), strings.Repeat("x", 5000)); e != api.ErrKind {
		t.Errorf("Parse gives %d", e)
	}
	for _, s := range []string{"put 0(0 0)", "\n", "put\n", "put  0(0 0)\n", "0 0(0 0) \n", "none 0(0 0)\n", "-1 0(0 0)\n", "00 0(0 0)\n", "put 0(0 00)\n", "send 0(1 0)\n", "put 0(0 0)\n\n", " put 0(0 0)\n", "put 0(0 0)\r\n",
		strings.Repeat("0 0(0 0)\n", 65)} {
		if l, e := Parse(lossy(), s); e != api.ErrSyntax || l != nil {
			t.Errorf("Parse(%q) gives %v, %d", s, l, e)
		}
	}
}

// TestLongest checks P23.2: texts as long as they may be.
func TestLongest(t *testing.T) {
	if s, e := Text(counters(), slices.Repeat(steps(0, "0(0 2)"), 64)); e != api.OK || len(s) != 64*len("up 0(0 2)\n") {
		t.Errorf("Text gives %q, %d", s, e)
	}
	if _, e := Parse(counters(), strings.Repeat("x", api.MaxText)); e != api.ErrSyntax {
		t.Errorf("Parse gives %d", e)
	}
	if _, e := Parse(counters(), "none 0(0 0)\n"); e != api.ErrSyntax {
		t.Errorf("Parse gives %d", e)
	}
	// 64 lines of 64 bytes are as many bytes as there may be.
	m := parse("model lossy\nstates a\nplaces c d\nletters l\nrule abcde a -> a\nstart 0(0 0 0)")
	full := "0(0 0(0 0 0 0 0 0 0 0 0 0 0 0) 0(0 0 0 0 0 0 0 0 0 0 0 0))"
	m.Rules[0].Name = "abcdefghijkl"[:63-1-len(full)]
	if s, e := Text(m, slices.Repeat(steps(0, full), 64)); e != api.OK || len(s) != api.MaxText {
		t.Errorf("Text gives %d bytes, %d", len(s), e)
	}
	m.Rules[0].Name += "m"
	if s, e := Text(m, slices.Repeat(steps(0, full), 64)); e != api.ErrLimit || s != "" {
		t.Errorf("Text gives %d bytes, %d", len(s), e)
	}
}
