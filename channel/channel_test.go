package channel

import (
	"testing"

	"coverability/api"
	"coverability/model"
	"coverability/order"
	"coverability/syntax"
	"coverability/values"
)

func parse(text string) api.Model {
	m, line, e := syntax.Parse(text)
	if e != api.OK {
		panic([]any{text, line, e})
	}
	return m
}

func val(s string) api.Value {
	v, e := order.Parse(s)
	if e != api.OK {
		panic(s)
	}
	return v
}

func vals(l ...string) []api.Value {
	var out []api.Value
	for _, s := range l {
		out = append(out, val(s))
	}
	return out
}

const rest = "rule r a -> b send d k\nrule s b -> a receive c l\nrule t a -> b\nstart 0(0 0 0)"

func lossy() api.Model { return parse("model lossy\nstates a b\nplaces c d\nletters l k\n" + rest) }

func ranked() api.Model {
	return parse("model priority\nstates a b\nplaces c d\nletters l 0 k 1\n" + rest)
}

// TestApply checks P18.1: rules, by hand.
func TestApply(t *testing.T) {
	full := "0(0 0 0 0 0 0 0 0 0 0 0 0)"
	for _, m := range []api.Model{lossy(), ranked()} {
		for _, x := range []struct {
			rule    int
			c, want string
			e       api.Errno
		}{
			{0, "0(0 0(0) 0(0))", "0(1 0(0) 0(0 1))", api.OK}, {0, "0(1 0 0)", "", api.ErrBlocked}, {1, "0(1 0(0 1) 0)", "0(0 0(1) 0)", api.OK}, {1, "0(1 0(1 0) 0)", "", api.ErrBlocked},
			{1, "0(1 0 0(0))", "", api.ErrBlocked}, {1, "0(1 0(0) 0)", "0(0 0 0)", api.OK}, {2, "0(0 0(1) 0(0))", "0(1 0(1) 0(0))", api.OK}, {0, "0(0 0 " + full + ")", "", api.ErrLimit},
			{3, "0", "", api.ErrRule}, {-1, "0", "", api.ErrRule}, {0, "0", "", api.ErrConfig}, {0, "0(0 0 0(2))", "", api.ErrConfig}, {1, "0(1 " + full + " 0)", "0(0 0(0 0 0 0 0 0 0 0 0 0 0) 0)", api.OK},
		} {
			c, e := Apply(m, x.rule, val(x.c))
			if e != x.e || e == api.OK && !values.Same(c, val(x.want)) || e != api.OK && len(c.Kids) > 0 {
				t.Errorf("kind %d: Apply(%d, %s) gives %v, %d", m.Kind, x.rule, x.c, c, e)
			}
			ok, e := Enabled(m, x.rule, val(x.c))
			if ok != (x.e == api.OK || x.e == api.ErrLimit) || e != x.e && x.e != api.ErrBlocked && x.e != api.ErrLimit {
				t.Errorf("kind %d: Enabled(%d, %s) gives %v, %d", m.Kind, x.rule, x.c, ok, e)
			}
		}
	}
}

// TestKinds checks the errors of models in P18.1 and P18.2.
func TestKinds(t *testing.T) {
	counter := parse("model counter\nstates a\nplaces x\nstart 0(0 0)")
	for _, x := range []struct {
		m api.Model
		e api.Errno
	}{{counter, api.ErrKind}, {api.Model{Kind: api.KindLossy}, api.ErrLimit}} {
		_, e1 := Apply(x.m, 9, api.Value{})
		_, e2 := Enabled(x.m, 9, api.Value{})
		_, e3 := Losses(x.m, api.Value{})
		_, e4 := Down(x.m, api.Value{}, api.Value{})
		if e1 != x.e || e2 != x.e || e3 != x.e || e4 != x.e {
			t.Errorf("errors %d, %d, %d, %d", e1, e2, e3, e4)
		}
	}
	if _, e := Losses(lossy(), val("0(0 0)")); e != api.ErrConfig {
		t.Errorf("Losses gives %d", e)
	}
}

// TestLosses checks P18.1: losses.
func TestLosses(t *testing.T) {
	c := val("0(1 0(0 0 1) 0(1 0))")
	if l, e := Losses(lossy(), c); e != api.OK || !values.SameLists(l, vals("0(1 0(0 0) 0(1 0))", "0(1 0(0 1) 0(1 0))", "0(1 0(0 0 1) 0(0))", "0(1 0(0 0 1) 0(1))")) {
		t.Errorf("Losses gives %v, %d", l, e)
	}
	if l, e := Losses(ranked(), c); e != api.OK || !values.SameLists(l, vals("0(1 0(0 1) 0(1 0))")) {
		t.Errorf("Losses by ranks gives %v, %d", l, e)
	}
	if l, e := Losses(ranked(), val("0(1 0 0)")); e != api.OK || len(l) > 0 {
		t.Errorf("Losses of nothing gives %v, %d", l, e)
	}
}

// TestDown checks P18.2 by hand, and errors.
func TestDown(t *testing.T) {
	for _, x := range []struct {
		m        api.Model
		from, to string
		want     []api.Value
		e        api.Errno
	}{
		{lossy(), "0(1 0(0 0 1) 0(1 0))", "0(1 0(0) 0(0))", vals("0(1 0(0 0) 0(1 0))", "0(1 0(0) 0(1 0))", "0(1 0(0) 0(0))"), api.OK},
		{ranked(), "0(1 0(0 0 1) 0(1))", "0(1 0(1) 0(1))", vals("0(1 0(0 1) 0(1))", "0(1 0(1) 0(1))"), api.OK}, {ranked(), "0(1 0(0 0 1) 0)", "0(1 0(0) 0)", nil, api.ErrNone},
		{lossy(), "0(1 0(1) 0)", "0(1 0(1) 0)", nil, api.OK}, {lossy(), "0(1 0(1) 0)", "0(0 0(1) 0)", nil, api.ErrNone}, {lossy(), "0(1 0(1) 0)", "0(1 0(1) 0(0))", nil, api.ErrNone},
		{lossy(), "0(1 0(1 0 1 0) 0)", "0(1 0(1 0) 0)", vals("0(1 0(1 0 1) 0)", "0(1 0(1 0) 0)"), api.OK}, {lossy(), "0", "0(1 0 0)", nil, api.ErrConfig}, {lossy(), "0(1 0 0)", "0", nil, api.ErrConfig},
	} {
		if l, e := Down(x.m, val(x.from), val(x.to)); e != x.e || !values.SameLists(l, x.want) {
			t.Errorf("Down(%s, %s) gives %v, %d", x.from, x.to, l, e)
		}
	}
}

// configs returns the configurations with up to some letters in the first channel, and two words in the second one.
func configs(m api.Model, letters int) []api.Value {
	words := vals("0")
	for i := 0; i < len(words); i++ {
		for x := range 2 {
			if w := words[i]; len(w.Kids) < letters {
				words = append(words, api.Value{Kids: append(w.Kids[:len(w.Kids):len(w.Kids)], api.Value{N: x})})
			}
		}
	}
	var out []api.Value
	for _, w := range words {
		for state := range 2 {
			out = append(out, api.Value{Kids: []api.Value{{N: state}, w, val("0(1)")}}, api.Value{Kids: []api.Value{{N: state}, w, val("0(0 1)")}})
		}
	}
	return out
}

// TestLaws checks the consequences: losses lead down, Down is losses, and a greater configuration can do as much.
func TestLaws(t *testing.T) {
	for _, m := range []api.Model{lossy(), ranked()} {
		ty, _ := model.Type(m)
		all := configs(m, 3)
		for _, a := range all {
			for _, b := range all {
				l, e := Down(m, b, a)
				if (e == api.OK) != order.Leq(ty, a, b) {
					t.Fatalf("Down(%v, %v) gives %d", b, a, e)
				}
				at := b
				for _, c := range append(l[:len(l):len(l)], a)[:len(l)] {
					losses, _ := Losses(m, at)
					if _, ok := values.Index(losses, c); !ok {
						t.Fatalf("Down(%v, %v) gives %v", b, a, l)
					}
					at = c
				}
				if e == api.OK && !values.Same(at, a) {
					t.Fatalf("Down(%v, %v) ends at %v", b, a, at)
				}
			}
		}
	}
	c := val("0(0 0(1) 0)")
	l, _ := Losses(lossy(), c)
	d, _ := Apply(lossy(), 0, c)
	l[0].Kids[0].N, d.Kids[1].Kids[0].N = 9, 9
	if !values.Same(c, val("0(0 0(1) 0)")) {
		t.Error("a result shares memory with an argument")
	}
}

// TestLongest checks P18.1: a word as long as it may be.
func TestLongest(t *testing.T) {
	eleven := val("0(0 0 0(0 0 0 0 0 0 0 0 0 0 0))")
	for _, m := range []api.Model{lossy(), ranked()} {
		c, e := Apply(m, 0, eleven)
		if e != api.OK || len(c.Kids[2].Kids) != 12 {
			t.Errorf("Apply gives %v, %d", c, e)
		}
		if _, e := Apply(m, 0, api.Value{Kids: []api.Value{{}, {}, c.Kids[2]}}); e != api.ErrLimit {
			t.Errorf("Apply to the longest word gives %d", e)
		}
	}
}
