package service

import (
	"slices"
	"strings"
	"testing"

	"coverability/api"
	"coverability/order"
	"coverability/question"
	"coverability/syntax"
)

const (
	up     = "model counter\nstates a\nplaces x y\nrule r a -> a give x 1\nstart 0(0 0 0)\n"
	finite = "model counter\nstates a b\nplaces x y\nrule r a -> b need x 1 give y 1\nrule s b -> a need y 1\nstart 0(0 2 0)\n"
	circle = "model counter\nstates a b\nplaces x\nrule r a -> b\nrule s b -> a\nstart 0(0 0)\n"
	later  = "model counter\nstates a b\nplaces x\nrule r a -> b give x 3\nrule s b -> b need x 1 give x 2\nstart 0(0 0)\n"
	lossy  = "model lossy\nstates a b\nplaces c\nletters l\nrule put a -> b send c l\nstart 0(0 0)\n"
)

func val(s string) api.Value {
	v, e := order.Parse(s)
	if e != api.OK {
		panic(s)
	}
	return v
}

// TestServe checks P44.2 and the texts of P44.1 for all kinds of certificates.
func TestServe(t *testing.T) {
	for _, x := range []struct {
		model, question string
		budget          int
		want            string
	}{
		{up, "cover 0(0 2 0)", 9, "cover 0(0 2 0)\nyes\nused 2\nrun\nr 0(0 1 0)\nr 0(0 2 0)\n"}, {up, "cover 0(0 0 1)", 9, "cover 0(0 0 1)\nno\nused 1\nabove 0(0 0 1)\n"}, {up, "cover 0(0 2 0)", 1, "cover 0(0 2 0)\nopen\nused 1\n"}, {up, "cover 0(0 0 0)", 0, "cover 0(0 0 0)\nyes\nused 0\n"},
		{finite, "reach 0(0 0 1)", 99, "reach 0(0 0 1)\nno\nused 2\natom 0 0 -1 0 -1\n"}, {finite, "reach 0(0 1 0)", 99, "reach 0(0 1 0)\nyes\nused 2\nrun\nr 0(1 1 1)\ns 0(0 1 0)\n"}, {up, "bounded", 9, "bounded\nno\nused 3\nbefore again r\n"}, {later, "bounded", 9, "bounded\nno\nused 4\nbefore r again s\n"},
		{finite, "bounded", 99, "bounded\nyes\nused 5\nlimit a 2 0\nlimit b 1 1\n"}, {up, "place y", 9, "place y\nyes\nused 3\nlimit a w 0\n"}, {circle, "home", 9, "home\nyes\nused 2\namong 0(0 0)\namong 0(1 0)\n"}, {circle, "dead", 9, "dead\nno\nused 2\namong 0(0 0)\namong 0(1 0)\n"},
		{lossy, "dead", 9, "dead\nyes\nused 3\nrun\nput 0(1 0(0))\n0 0(1 0)\n"}, {lossy, "home", 9, "home\nno\nused 3\nrun\nput 0(1 0(0))\namong 0(0 0)\namong 0(1 0)\namong 0(1 0(0))\n"}, {lossy, "dead", 0, "dead\nopen\nused 0\n"},
	} {
		if s, e := Serve(x.model, x.question, x.budget); e != api.OK || s != x.want {
			t.Errorf("Serve(%q, %d) gives %q, %d", x.question, x.budget, s, e)
		}
	}
	for _, x := range []struct {
		model, question string
		budget          int
		e               api.Errno
	}{
		{"", "", -1, api.ErrSyntax}, {strings.Repeat("#", 5000), "dead", 9, api.ErrLimit}, {up, "what", -1, api.ErrSyntax}, {up, strings.Repeat("x", 5000), 9, api.ErrLimit}, {up, "dead", -1, api.ErrRange}, {"model branching\nstates a\nplaces x\n", "dead", 9, api.ErrKind}, {up, "cover 0(0 99 0)", 999, api.ErrLimit},
	} {
		if s, e := Serve(x.model, x.question, x.budget); e != x.e || s != "" {
			t.Errorf("Serve(%.20q, %.20q, %d) gives %q, %d", x.model, x.question, x.budget, s, e)
		}
	}
}

// TestBatch checks P44.2: Batch is Serve, one by one.
func TestBatch(t *testing.T) {
	questions := []string{"cover 0(0 2 0)", "what", "bounded", "cover 0(0 99 0)"}
	texts, errors := Batch(up, questions, 999)
	for i, q := range questions {
		s, e := Serve(up, q, 999)
		if len(texts) != len(questions) || len(errors) != len(questions) || texts[i] != s || errors[i] != e {
			t.Errorf("Batch gives %q, %v", texts, errors)
		}
	}
	if texts, errors := Batch(up, nil, 9); len(texts) != 0 || len(errors) != 0 {
		t.Errorf("Batch of nothing gives %q, %v", texts, errors)
	}
}

// TestText checks P44.1: fields in order, and errors.
func TestText(t *testing.T) {
	m, _, _ := syntax.Parse(finite)
	q, _ := question.Parse(m, "dead")
	full := api.Answer{Decided: true, Yes: true, Used: 7, Run: []api.Step{{Rule: -1, Config: val("0(0 0 0)")}}, Basis: []api.Value{val("0(1 2)"), val("-3")}, Atom: api.Atom{Coefs: []int{1, -1}, Mod: 2, Values: []int{api.Omega, 1}},
		Limits: []api.Limit{{State: 1, Vector: []int{api.Omega, 0}}, {}}, Pump: api.Pump{Before: []int{0, 1}}, Closed: []api.Value{val("4")}}
	want := "dead\nyes\nused 7\nrun\n0 0(0 0 0)\nabove 0(1 2)\nabove -3\natom 2 1 -1 w 1\nlimit b w 0\nlimit a\nbefore r s again\namong 4\n"
	if s, e := Text(m, q, full); e != api.OK || s != want {
		t.Errorf("Text gives %q, %d", s, e)
	}
	if s, e := Text(m, q, api.Answer{Atom: api.Atom{Mod: 2, Values: []int{1}}}); e != api.OK || s != "dead\nopen\nused 0\n" {
		t.Errorf("Text gives %q, %d", s, e)
	}
	large := api.Value{Kids: make([]api.Value, 128)}
	long := make([]api.Step, 65)
	many := slices.Repeat([]api.Value{{Kids: make([]api.Value, 120)}}, 300)
	for i, x := range []struct {
		q api.Question
		a api.Answer
		e api.Errno
	}{
		{api.Question{}, api.Answer{Basis: []api.Value{large}}, api.ErrAsk}, {q, api.Answer{Basis: []api.Value{large}}, api.ErrAnswer}, {q, api.Answer{Closed: []api.Value{large}}, api.ErrAnswer}, {q, api.Answer{Limits: []api.Limit{{State: 2}}}, api.ErrAnswer}, {q, api.Answer{Limits: []api.Limit{{State: -1}}}, api.ErrAnswer},
		{q, api.Answer{Pump: api.Pump{Before: []int{2}}}, api.ErrAnswer}, {q, api.Answer{Pump: api.Pump{Again: []int{-1}}}, api.ErrAnswer}, {q, api.Answer{Run: []api.Step{{Rule: 2}}}, api.ErrAnswer}, {q, api.Answer{Run: []api.Step{{Rule: 0}}}, api.ErrAnswer}, {q, api.Answer{Run: long}, api.ErrLimit},
		{q, api.Answer{Run: long, Closed: []api.Value{large}}, api.ErrAnswer}, {q, api.Answer{Closed: many}, api.ErrLimit}, {q, api.Answer{Closed: many[:200]}, api.OK}, {q, api.Answer{Closed: append(many, large)}, api.ErrAnswer},
	} {
		s, e := Text(m, x.q, x.a)
		if e != x.e || e != api.OK && s != "" {
			t.Errorf("%d: Text gives %d bytes, %d", i, len(s), e)
		}
	}
	if _, e := Text(api.Model{}, q, api.Answer{}); e != api.ErrKind {
		t.Errorf("Text gives %d", e)
	}
}

// TestLongest checks P44.1: a text of just as many bytes as there may be, and one of one more.
func TestLongest(t *testing.T) {
	m, _, _ := syntax.Parse(finite)
	q, _ := question.Parse(m, "dead")
	empty, _ := Text(m, q, api.Answer{})
	line := len("among 0\n")
	count := (16*api.MaxText - len(empty)) / line
	a := api.Answer{Closed: make([]api.Value, count)}
	for rest := 16*api.MaxText - len(empty) - count*line; rest > 0; rest-- {
		a.Closed[0].N = max(10, 10*a.Closed[0].N)
	}
	if s, e := Text(m, q, a); e != api.OK || len(s) != 16*api.MaxText {
		t.Errorf("Text gives %d bytes, %d", len(s), e)
	}
	a.Closed[1].N = 10
	if s, e := Text(m, q, a); e != api.ErrLimit || s != "" {
		t.Errorf("Text gives %d bytes, %d", len(s), e)
	}
}
