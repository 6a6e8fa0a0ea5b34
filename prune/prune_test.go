package prune

import (
	"math/rand"
	"slices"
	"testing"

	"coverability/api"
	"coverability/backward"
	"coverability/basis"
	"coverability/model"
	"coverability/order"
	"coverability/syntax"
	"coverability/values"
)

func parse(text string) api.Model {
	m, line, e := syntax.Parse(text)
	if e != api.OK {
		panic([]any{text, line, e})
	}
	return m
}

func val(s string) api.Value {
	v, e := order.Parse(s)
	if e != api.OK {
		panic(s)
	}
	return v
}

func vals(l ...string) []api.Value {
	var out []api.Value
	for _, s := range l {
		out = append(out, val(s))
	}
	return out
}

func move() api.Model {
	return parse("model counter\nstates a\nplaces x y\nrule r a -> a need x 1 give y 1\nrule s a -> a need y 2 give x 2\nstart 0(0 3 0)")
}

// TestExcess checks P26.1.
func TestExcess(t *testing.T) {
	for _, x := range []struct {
		c    string
		flow []int
		ok   bool
		e    api.Errno
	}{{"0(0 2 2)", []int{1, 1}, true, api.OK}, {"0(0 2 1)", nil, false, api.OK}, {"0(0 0 0)", nil, false, api.OK}, {"0(0 2)", nil, false, api.ErrConfig}, {"0(0 0 1048576)", []int{1, 1}, true, api.OK}} {
		if y, ok, e := Excess(move(), val(x.c)); e != x.e || ok != x.ok || !slices.Equal(y, x.flow) {
			t.Errorf("Excess(%s) gives %v, %v, %d", x.c, y, ok, e)
		}
	}
	two := parse("model counter\nstates a\nplaces x y z\nrule r a -> a need x 1 give y 1\nstart 0(0 1 0 2)")
	if y, ok, e := Excess(two, val("0(0 1 1 3)")); e != api.OK || !ok || !slices.Equal(y, []int{0, 0, 1}) {
		t.Errorf("Excess gives %v, %v, %d", y, ok, e)
	}
}

// TestErrors checks the errors of all functions.
func TestErrors(t *testing.T) {
	given := api.Search{Basis: vals("0(0 1 1)"), Front: vals("0(0 1 1)"), Used: 4}
	for _, x := range []struct {
		m api.Model
		e api.Errno
	}{
		{parse("model branching\nstates a\nplaces x"), api.ErrKind}, {parse("model counter\nstates a\nplaces x y\nrule r a -> a empty x move y y\nstart 0(0 0 0)"), api.ErrKind}, {parse("model counter\nstates a\nplaces x y\nstart 0(0 0 0)"), api.ErrKind}, {api.Model{Kind: 1}, api.ErrLimit},
	} {
		_, _, e1 := Excess(x.m, val("0"))
		_, e2 := Start(x.m, vals("0"))
		s, ok, e3 := Step(x.m, given)
		r, n, e4 := Run(x.m, given, 5)
		_, e5 := Closed(x.m, vals("0"))
		if e1 != x.e || e2 != x.e || e3 != x.e || e4 != x.e || e5 != x.e || ok || n != 0 || !backward.Same(s, given) || !backward.Same(r, given) {
			t.Errorf("errors %d, %d, %d, %d, %d", e1, e2, e3, e4, e5)
		}
	}
	if s, e := Start(move(), vals("0(0 9 9)", "0")); e != api.ErrValue || s.Front != nil {
		t.Errorf("Start gives %v, %d", s, e)
	}
	if _, e := Closed(move(), vals("0")); e != api.ErrValue {
		t.Errorf("Closed gives %d", e)
	}
	if _, e := Closed(move(), vals("0(0 2 1)", "0(0 1 2)")); e != api.ErrOrder {
		t.Errorf("Closed gives %d", e)
	}
}

// TestLeftOut checks P26.2 and P26.3 by hand.
func TestLeftOut(t *testing.T) {
	m := move()
	s, e := Start(m, vals("0(0 2 2)", "0(0 0 3)"))
	if e != api.OK || !values.SameLists(s.Basis, vals("0(0 0 3)")) || len(s.Origins) != 1 {
		t.Fatalf("Start gives %v, %d", s, e)
	}
	s, n, e := Run(m, s, 100)
	if e != api.OK || len(s.Front) > 0 || n != s.Used || !backward.Hit(m, s) {
		t.Fatalf("Run gives %v, %d, %d", s, n, e)
	}
	if ok, e := Closed(m, s.Basis); e != api.OK || !ok {
		t.Errorf("Closed gives %v, %d", ok, e)
	}
	if ok, e := Closed(m, vals("0(0 0 3)")); e != api.OK || ok {
		t.Errorf("Closed of what is not gives %v, %d", ok, e)
	}
	if s, ok, e := Step(m, s); e != api.OK || ok || !backward.Done(s) {
		t.Errorf("Step gives %v, %v, %d", s, ok, e)
	}
	none, e := Start(m, vals("0(0 2 2)"))
	if e != api.OK || len(none.Front) > 0 || len(none.Origins) > 0 {
		t.Errorf("Start gives %v, %d", none, e)
	}
}

// TestAgreesWithBackward checks the consequences for random models: a smaller set, and the same answer.
func TestAgreesWithBackward(t *testing.T) {
	r := rand.New(rand.NewSource(12))
	pruned := 0
	for range 200 {
		m := api.Model{Kind: api.KindCounter, States: []string{"a", "b"}, Places: []string{"x", "y"}, Start: values.Counter(0, []int{r.Intn(4), r.Intn(3)})}
		for i := range 1 + r.Intn(3) {
			n := 1 + r.Intn(2)
			rule := api.Rule{Name: "r" + string(rune('0'+i)), From: r.Intn(2), To: r.Intn(2), Need: []int{n, 0}, Give: []int{0, n}}
			if r.Intn(2) == 0 {
				rule.Need, rule.Give = rule.Give, rule.Need
			}
			m.Rules = append(m.Rules, rule)
		}
		target := []api.Value{values.Counter(r.Intn(2), []int{r.Intn(4), r.Intn(4)})}
		full, e1 := backward.Start(m, target)
		small, e2 := Start(m, target)
		full, _, e3 := backward.Run(m, full, 1000)
		small, _, e4 := Run(m, small, 1000)
		ty, _ := model.Type(m)
		if e1 != api.OK || e2 != api.OK || e3 != api.OK || e4 != api.OK || !basis.Subset(ty, small.Basis, full.Basis) || backward.Hit(m, full) != backward.Hit(m, small) {
			t.Fatalf("%v, %v: %v and %v", m, target, full.Basis, small.Basis)
		}
		if ok, e := Closed(m, small.Basis); backward.Done(small) && (e != api.OK || !ok) {
			t.Fatalf("%v: %v is not closed, %d", m, small.Basis, e)
		}
		if len(small.Origins) < len(full.Origins) {
			pruned++
		}
	}
	if pruned == 0 {
		t.Error("nothing was left out")
	}
}

// TestErrorsAlone checks that errors come without a result.
func TestErrorsAlone(t *testing.T) {
	if ok, e := Closed(api.Model{}, nil); e != api.ErrKind || ok {
		t.Errorf("Closed gives %v, %d", ok, e)
	}
	if ok, e := Closed(move(), vals("0")); e != api.ErrValue || ok {
		t.Errorf("Closed gives %v, %d", ok, e)
	}
}
