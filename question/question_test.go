package question

import (
	"strings"
	"testing"

	"coverability/api"
	"coverability/order"
	"coverability/syntax"
)

func parse(text string) api.Model {
	m, line, e := syntax.Parse(text)
	if e != api.OK {
		panic([]any{text, line, e})
	}
	return m
}

func val(s string) api.Value {
	v, e := order.Parse(s)
	if e != api.OK {
		panic(s)
	}
	return v
}

func counters() api.Model {
	return parse("model counter\nstates a\nplaces x y\nrule r a -> a give x 1\nstart 0(0 0 0)")
}
func moves() api.Model {
	return parse("model counter\nstates a\nplaces x y\nrule r a -> a empty x move y x\nstart 0(0 0 0)")
}
func lossy() api.Model {
	return parse("model lossy\nstates a\nplaces c\nletters l\nstart 0(0 0)")
}

// TestTexts checks P41.1 for texts of all kinds.
func TestTexts(t *testing.T) {
	for _, x := range []struct {
		m    api.Model
		text string
		q    api.Question
	}{
		{counters(), "cover 0(0 1 7)", api.Question{Kind: api.AskCover, Target: val("0(0 1 7)")}}, {lossy(), "reach 0(0 0(0 0))", api.Question{Kind: api.AskReach, Target: val("0(0 0(0 0))")}}, {counters(), "bounded", api.Question{Kind: api.AskBounded}},
		{counters(), "place x", api.Question{Kind: api.AskPlace}}, {counters(), "place y", api.Question{Kind: api.AskPlace, Place: 1}}, {moves(), "dead", api.Question{Kind: api.AskDead}}, {lossy(), "home", api.Question{Kind: api.AskHome}},
	} {
		if q, e := Parse(x.m, x.text); e != api.OK || !Same(q, x.q) {
			t.Errorf("Parse(%q) gives %v, %d", x.text, q, e)
		}
		if s, e := Text(x.m, x.q); e != api.OK || s != x.text || Check(x.m, x.q) != api.OK {
			t.Errorf("Text(%v) gives %q, %d", x.q, s, e)
		}
	}
	if Same(api.Question{Kind: 1}, api.Question{Kind: 2}) || Same(api.Question{Place: 1}, api.Question{}) || Same(api.Question{Target: val("1")}, api.Question{}) || !Same(api.Question{Target: api.Value{Kids: []api.Value{}}}, api.Question{}) {
		t.Error("Same is wrong")
	}
}

// TestErrors checks P41.1: what is no question.
func TestErrors(t *testing.T) {
	branching := parse("model branching\nstates a\nplaces x")
	one := val("1")
	for _, x := range []struct {
		m api.Model
		q api.Question
		e api.Errno
	}{
		{branching, api.Question{Kind: api.AskDead}, api.ErrKind}, {api.Model{Kind: 1}, api.Question{}, api.ErrLimit}, {counters(), api.Question{}, api.ErrAsk}, {counters(), api.Question{Kind: 7}, api.ErrAsk}, {counters(), api.Question{Kind: -1}, api.ErrAsk}, {counters(), api.Question{Kind: 1}, api.ErrAsk},
		{counters(), api.Question{Kind: 1, Place: 1, Target: val("0(0 0 0)")}, api.ErrAsk}, {counters(), api.Question{Kind: 2, Target: val("0(1 0 0)")}, api.ErrAsk}, {counters(), api.Question{Kind: 3, Place: 1}, api.ErrAsk}, {counters(), api.Question{Kind: 3, Target: one}, api.ErrAsk}, {counters(), api.Question{Kind: 4, Place: 2}, api.ErrAsk},
		{counters(), api.Question{Kind: 4, Place: -1}, api.ErrAsk}, {counters(), api.Question{Kind: 4, Target: val("0(0 0 0)")}, api.ErrAsk}, {counters(), api.Question{Kind: 5, Place: 1}, api.ErrAsk}, {counters(), api.Question{Kind: 6, Target: one}, api.ErrAsk}, {moves(), api.Question{Kind: 3}, api.ErrAsk}, {moves(), api.Question{Kind: 4}, api.ErrAsk}, {lossy(), api.Question{Kind: 3}, api.ErrAsk},
	} {
		s, e := Text(x.m, x.q)
		if Check(x.m, x.q) != x.e || e != x.e || s != "" {
			t.Errorf("Text(%v) gives %q, %d", x.q, s, e)
		}
	}
	for _, s := range []string{"", " ", "cover", "cover ", "cover 0(0 0)", "cover  0(0 0 0)", "cover 0(0 0 0) ", "cover 0(0 0 00)", "bounded ", "bounded x", "place", "place z", "place x ", "place 0", "dead\n", "Dead", "homes", "none", "reach x"} {
		if q, e := Parse(counters(), s); e != api.ErrSyntax || !Same(q, api.Question{}) {
			t.Errorf("Parse(%q) gives %v, %d", s, q, e)
		}
	}
	if _, e := Parse(lossy(), "bounded"); e != api.ErrSyntax {
		t.Errorf("Parse gives %d", e)
	}
	if _, e := Parse(branching, strings.Repeat("x", 5000)); e != api.ErrKind {
		t.Errorf("Parse gives %d", e)
	}
	if _, e := Parse(lossy(), strings.Repeat("x", 5000)); e != api.ErrLimit {
		t.Errorf("Parse gives %d", e)
	}
}

// TestLongest checks P41.1: a text as long as it may be.
func TestLongest(t *testing.T) {
	if _, e := Parse(lossy(), strings.Repeat("x", api.MaxText)); e != api.ErrSyntax {
		t.Errorf("Parse gives %d", e)
	}
}
