package checker

import (
	"fmt"
	"math/rand"
	"slices"
	"testing"

	"coverability/answer"
	"coverability/api"
	"coverability/order"
	"coverability/syntax"
	"coverability/values"
)

func parse(text string) api.Model {
	m, line, e := syntax.Parse(text)
	if e != api.OK {
		panic([]any{text, line, e})
	}
	return m
}

func val(s string) api.Value {
	v, e := order.Parse(s)
	if e != api.OK {
		panic(s)
	}
	return v
}

func vals(l ...string) []api.Value {
	var out []api.Value
	for _, s := range l {
		out = append(out, val(s))
	}
	return out
}

func steps(l ...any) []api.Step {
	var out []api.Step
	for i := 0; i < len(l); i += 2 {
		out = append(out, api.Step{Rule: l[i].(int), Config: val(l[i+1].(string))})
	}
	return out
}

func up() api.Model {
	return parse("model counter\nstates a\nplaces x y\nrule r a -> a give x 1\nstart 0(0 0 0)")
}

func finite() api.Model {
	return parse("model counter\nstates a b\nplaces x y\nrule r a -> b need x 1 give y 1\nrule s b -> a need y 1\nstart 0(0 2 0)")
}

func circle() api.Model {
	return parse("model counter\nstates a b\nplaces x\nrule r a -> b\nrule s b -> a\nstart 0(0 0)")
}

func top() api.Model {
	return parse("model counter\nstates a\nplaces x\nrule r a -> a give x 1\nstart 0(0 1048576)")
}

func branching() api.Model { return parse("model branching\nstates a\nplaces x") }

func all() []api.Value {
	return vals("0(0 0 0)", "0(0 1 0)", "0(0 2 0)", "0(1 0 1)", "0(1 1 1)")
}

// TestClosed checks P43.1.
func TestClosed(t *testing.T) {
	g, e := Closed(finite(), all())
	if e != api.OK || fmt.Sprint(g.Arcs) != "[[] [{0 3}] [{0 4}] [{1 0}] [{1 1}]]" || !values.SameLists(g.Configs, all()) {
		t.Errorf("Closed gives %v, %d", g, e)
	}
	for i, x := range []struct {
		m api.Model
		l []api.Value
		e api.Errno
	}{
		{finite(), all()[1:], api.ErrOpen}, {finite(), all()[3:], api.ErrBegin}, {finite(), nil, api.ErrBegin}, {finite(), append(all(), val("0(0 2 0)")), api.ErrOrder}, {finite(), append(all(), val("9")), api.ErrConfig}, {finite(), make([]api.Value, 129), api.ErrLimit},
		{finite(), make([]api.Value, 128), api.ErrConfig}, {branching(), make([]api.Value, 129), api.ErrKind}, {api.Model{Kind: 1}, nil, api.ErrLimit}, {top(), vals("0(0 1048576)"), api.ErrLimit},
	} {
		if g, e := Closed(x.m, x.l); e != x.e || g.Configs != nil {
			t.Errorf("%d: Closed gives %v, %d", i, g, e)
		}
	}
	one := vals("0(0 0)", "0(1 0)")
	g, _ = Closed(circle(), one)
	g.Configs[0].Kids[0].N = 7
	if one[0].Kids[0].N != 0 {
		t.Error("Closed shares memory with its argument")
	}
}

// TestCheck checks P43.2, kind by kind.
func TestCheck(t *testing.T) {
	cover := func(s string) api.Question { return api.Question{Kind: api.AskCover, Target: val(s)} }
	reach := func(s string) api.Question { return api.Question{Kind: api.AskReach, Target: val(s)} }
	kind := func(k int) api.Question { return api.Question{Kind: k} }
	second := api.Question{Kind: api.AskPlace, Place: 1}
	limits := func(v ...int) []api.Limit { return []api.Limit{{Vector: v}} }
	const w = api.Omega
	pump := api.Pump{Again: []int{0}}
	down := vals("0(0 0)", "0(1 0)")
	end := steps(0, "0(1 1 1)", 1, "0(0 1 0)", 0, "0(1 0 1)", 1, "0(0 0 0)")
	for i, x := range []struct {
		m api.Model
		q api.Question
		a api.Answer
		e api.Errno
	}{
		{up(), kind(9), api.Answer{}, api.ErrAsk}, {branching(), kind(9), api.Answer{}, api.ErrKind}, {up(), cover("0(0 1 0)"), api.Answer{}, api.ErrAnswer}, {up(), cover("0(0 1 0)"), api.Answer{Yes: true, Run: steps(0, "0(0 1 0)")}, api.ErrAnswer},
		{up(), cover("0(0 1 0)"), api.Answer{Decided: true, Yes: true, Run: steps(0, "0(0 1 0)"), Used: -5}, api.OK}, {up(), cover("0(0 2 0)"), api.Answer{Decided: true, Yes: true, Run: steps(0, "0(0 1 0)")}, api.ErrTarget}, {up(), cover("0(0 0 1)"), api.Answer{Decided: true, Basis: vals("0(0 0 1)")}, api.OK},
		{up(), cover("0(0 1 0)"), api.Answer{Decided: true, Basis: vals("0(0 1 0)")}, api.ErrOpen}, {up(), cover("0(0 1 0)"), api.Answer{Decided: true, Yes: true, Run: steps(0, "0(0 1 0)"), Basis: vals("0")}, api.ErrAnswer}, {up(), cover("0(0 0 1)"), api.Answer{Decided: true, Basis: vals("0(0 0 1)"), Run: steps(0, "0")}, api.ErrAnswer},
		{up(), reach("0(0 1 0)"), api.Answer{Decided: true, Yes: true, Run: steps(0, "0(0 1 0)")}, api.OK}, {up(), reach("0(0 0 0)"), api.Answer{Decided: true, Yes: true, Run: steps(0, "0(0 1 0)")}, api.ErrTarget}, {up(), reach("0(0 0 1)"), api.Answer{Decided: true, Atom: api.Atom{Coefs: []int{0, -1}, Values: []int{0}}}, api.OK},
		{up(), reach("0(0 1 0)"), api.Answer{Decided: true, Atom: api.Atom{Coefs: []int{0, -1}, Values: []int{0}}}, api.ErrTarget}, {finite(), reach("0(1 0 0)"), api.Answer{Decided: true, Closed: all()}, api.OK}, {finite(), reach("0(1 0 1)"), api.Answer{Decided: true, Closed: all()}, api.ErrTarget}, {finite(), reach("0(1 0 0)"), api.Answer{Decided: true}, api.ErrAtom},
		{finite(), reach("0(1 0 0)"), api.Answer{Decided: true, Closed: all(), Pump: pump}, api.ErrAnswer}, {up(), reach("0(0 1 0)"), api.Answer{Decided: true, Yes: true, Run: steps(0, "0(0 1 0)"), Atom: api.Atom{Mod: 2}}, api.ErrAnswer}, {up(), reach("0(0 1 0)"), api.Answer{Decided: true, Yes: true, Run: steps(0, "0(0 1 0)"), Closed: vals("0")}, api.ErrAnswer},
		{finite(), kind(api.AskBounded), api.Answer{Decided: true, Yes: true, Limits: []api.Limit{{Vector: []int{2, 0}}, {State: 1, Vector: []int{1, 1}}}}, api.OK}, {finite(), kind(api.AskBounded), api.Answer{Decided: true, Yes: true, Limits: limits(2, 0)}, api.ErrOpen}, {up(), kind(api.AskBounded), api.Answer{Decided: true, Yes: true, Limits: limits(w, 0)}, api.ErrOpen},
		{up(), kind(api.AskBounded), api.Answer{Decided: true, Pump: pump}, api.OK}, {finite(), kind(api.AskBounded), api.Answer{Decided: true, Pump: api.Pump{Again: []int{0, 1}}}, api.ErrCycle}, {up(), kind(api.AskBounded), api.Answer{Decided: true, Yes: true, Pump: pump}, api.ErrAnswer}, {up(), kind(api.AskBounded), api.Answer{Decided: true, Limits: limits(w, 0)}, api.ErrAnswer}, {up(), kind(api.AskBounded), api.Answer{Decided: true}, api.ErrNone},
		{up(), kind(api.AskPlace), api.Answer{Decided: true, Pump: pump}, api.OK}, {up(), second, api.Answer{Decided: true, Pump: pump}, api.ErrTarget}, {up(), second, api.Answer{Decided: true, Yes: true, Limits: limits(w, 0)}, api.OK}, {up(), kind(api.AskPlace), api.Answer{Decided: true, Yes: true, Limits: limits(w, 0)}, api.ErrOpen}, {up(), second, api.Answer{Decided: true, Yes: true, Limits: limits(4, 0)}, api.ErrOpen},
		{up(), second, api.Answer{Decided: true, Pump: api.Pump{Again: []int{5}}}, api.ErrRule}, {up(), second, api.Answer{Decided: true, Yes: true}, api.ErrBegin},
		{finite(), kind(api.AskDead), api.Answer{Decided: true, Yes: true, Run: end}, api.OK}, {finite(), kind(api.AskDead), api.Answer{Decided: true, Yes: true, Run: end[:3]}, api.ErrTarget}, {finite(), kind(api.AskDead), api.Answer{Decided: true, Yes: true, Run: end[1:]}, api.ErrRun}, {top(), kind(api.AskDead), api.Answer{Decided: true, Yes: true}, api.ErrTarget},
		{circle(), kind(api.AskDead), api.Answer{Decided: true, Closed: down}, api.OK}, {finite(), kind(api.AskDead), api.Answer{Decided: true, Closed: all()}, api.ErrTarget}, {circle(), kind(api.AskDead), api.Answer{Decided: true, Closed: down[:1]}, api.ErrOpen}, {circle(), kind(api.AskDead), api.Answer{Decided: true, Yes: true, Closed: down}, api.ErrAnswer},
		{circle(), kind(api.AskHome), api.Answer{Decided: true, Yes: true, Closed: down}, api.OK}, {finite(), kind(api.AskHome), api.Answer{Decided: true, Yes: true, Closed: all()}, api.ErrTarget}, {finite(), kind(api.AskHome), api.Answer{Decided: true, Run: end[:1], Closed: all()}, api.OK}, {circle(), kind(api.AskHome), api.Answer{Decided: true, Run: steps(0, "0(1 0)"), Closed: down}, api.ErrTarget},
		{finite(), kind(api.AskHome), api.Answer{Decided: true, Closed: all()}, api.ErrTarget}, {finite(), kind(api.AskHome), api.Answer{Decided: true, Run: end[1:], Closed: all()}, api.ErrRun}, {finite(), kind(api.AskHome), api.Answer{Decided: true, Run: end[1:], Closed: all()[1:]}, api.ErrOpen}, {circle(), kind(api.AskHome), api.Answer{Decided: true, Yes: true, Closed: down, Run: steps(0, "0(1 0)")}, api.ErrAnswer},
		{circle(), kind(api.AskHome), api.Answer{Decided: true, Yes: true, Closed: down, Basis: vals("0")}, api.ErrAnswer},
	} {
		if e := Check(x.m, x.q, x.a); e != x.e {
			t.Errorf("%d: Check gives %d and not %d", i, e, x.e)
		}
	}
}

// TestAccepts checks the consequences for random models of several kinds: what Ask decides is accepted, and the opposite is not.
func TestAccepts(t *testing.T) {
	r := rand.New(rand.NewSource(23))
	decided := map[string]int{}
	models := []api.Model{finite(), circle(), up(), parse("model lossy\nstates a b\nplaces c\nletters l k\nrule put a -> b send c l\nrule get b -> a receive c k\nrule go b -> b send c k\nstart 0(0 0)"), parse("model timed\nstates a b\nplaces x\nage 1\nrule old a -> b take x 2 2\nrule new b -> a make x\nstart 0(0 0(0(0 0)))"),
		parse("model nested\nstates a b\nletters l k\nlevels 2\nrule grow a -> b next l\nrule turn b -> a path l next k\nrule cut a -> a path k\nstart 0(0 0)"), parse("model priority\nstates a b\nplaces c\nletters l 0 k 1\nrule put a -> b send c l\nrule get b -> a receive c l\nstart 0(0 0)")}
	for range 100 {
		m := api.Model{Kind: api.KindCounter, States: []string{"a", "b"}, Places: []string{"x", "y"}, Start: values.Counter(0, []int{r.Intn(3), r.Intn(3)})}
		for i := range 1 + r.Intn(3) {
			m.Rules = append(m.Rules, api.Rule{Name: "r" + string(rune('0'+i)), From: r.Intn(2), To: r.Intn(2), Need: []int{r.Intn(3), r.Intn(3)}, Give: []int{r.Intn(2), r.Intn(2)}})
		}
		models = append(models, m)
	}
	for _, m := range models {
		for _, q := range []api.Question{{Kind: api.AskCover, Target: m.Start}, {Kind: api.AskCover, Target: other(m, r)}, {Kind: api.AskReach, Target: m.Start}, {Kind: api.AskReach, Target: other(m, r)}, {Kind: api.AskBounded}, {Kind: api.AskPlace}, {Kind: api.AskPlace, Place: 1}, {Kind: api.AskDead}, {Kind: api.AskHome}} {
			a, e := answer.Ask(m, q, 60)
			if e != api.OK || !a.Decided {
				continue
			}
			decided[fmt.Sprint(q.Kind, a.Yes)]++
			if e := Check(m, q, a); e != api.OK {
				t.Fatalf("%v, %v: %v is not accepted: %d", m, q, a, e)
			}
			a.Yes = !a.Yes
			if e := Check(m, q, a); e == api.OK {
				t.Fatalf("%v, %v: %v is accepted", m, q, a)
			}
		}
	}
	if len(decided) != 12 {
		t.Errorf("not all answers came: %v", decided)
	}
}

// other returns a configuration of a model.
func other(m api.Model, r *rand.Rand) api.Value {
	c := api.Value{Kids: slices.Clone(m.Start.Kids)}
	c.Kids[0].N = r.Intn(len(m.States))
	if m.Kind == api.KindCounter {
		c.Kids[1].N = r.Intn(4)
	}
	return c
}

// TestParts checks P43.2: a field is not empty if one part of it is not.
func TestParts(t *testing.T) {
	q := api.Question{Kind: api.AskCover, Target: val("0(0 0 0)")}
	for i, a := range []api.Answer{{Atom: api.Atom{Coefs: []int{0}}}, {Atom: api.Atom{Values: []int{0}}}, {Atom: api.Atom{Mod: 2}}, {Pump: api.Pump{Before: []int{0}}}, {Pump: api.Pump{Again: []int{0}}}, {Limits: make([]api.Limit, 1)}, {Closed: vals("0")}, {Basis: vals("0")}} {
		a.Decided, a.Yes = true, true
		if e := Check(up(), q, a); e != api.ErrAnswer {
			t.Errorf("%d: Check gives %d", i, e)
		}
	}
	if e := Check(up(), q, api.Answer{Decided: true, Yes: true}); e != api.OK {
		t.Errorf("Check gives %d", e)
	}
}

// TestAtomOrClosed checks P43.2: an answer to AskReach without Yes that has an Atom and Closed is refused before the certificate is looked at.
func TestAtomOrClosed(t *testing.T) {
	const w = api.Omega
	two := parse("model counter\nstates s t u\nplaces x\nrule r0 s -> s need x 1\nrule r1 t -> t give x 1\nstart 0(0 2)")
	one := parse("model counter\nstates a\nplaces x\nrule r a -> a need x 1\nstart 0(0 1)")
	five, down := api.Question{Kind: api.AskReach, Target: val("0(0 5)")}, vals("0(0 0)", "0(0 1)", "0(0 2)")
	above := api.Question{Kind: api.AskReach, Target: val("0(0 2)")}
	atom, other := api.Atom{Coefs: []int{-1}, Values: []int{-2, w, w}}, api.Atom{Coefs: []int{-1}, Values: []int{-1}}
	for i, x := range []struct {
		m api.Model
		q api.Question
		a api.Answer
		e api.Errno
	}{
		{two, five, api.Answer{Atom: atom, Closed: down}, api.ErrAnswer}, {two, five, api.Answer{Atom: atom}, api.OK}, {two, five, api.Answer{Closed: down}, api.OK},
		{one, above, api.Answer{Atom: other, Closed: down[:1]}, api.ErrAnswer}, {one, above, api.Answer{Atom: other}, api.OK}, {one, above, api.Answer{Closed: down[:1]}, api.ErrBegin}, {one, above, api.Answer{Closed: down[:2]}, api.OK},
		{two, five, api.Answer{Atom: api.Atom{Mod: 2}, Closed: down}, api.ErrAnswer}, {two, five, api.Answer{Atom: api.Atom{Coefs: []int{0}}, Closed: down}, api.ErrAnswer}, {two, five, api.Answer{Atom: api.Atom{Values: []int{0}}, Closed: down}, api.ErrAnswer}, {two, five, api.Answer{Atom: api.Atom{Coefs: []int{}, Values: []int{}}, Closed: down}, api.OK},
		{two, api.Question{Kind: api.AskReach, Target: val("0")}, api.Answer{Atom: atom, Closed: down}, api.ErrAsk},
	} {
		x.a.Decided = true
		if e := Check(x.m, x.q, x.a); e != x.e {
			t.Errorf("%d: Check gives %d and not %d", i, e, x.e)
		}
	}
}

// TestFields checks P43.2 for every set of fields: those that an answer does not have give ErrAnswer, the others do not.
func TestFields(t *testing.T) {
	with := []struct {
		letter string
		add    func(*api.Answer)
	}{
		{"r", func(a *api.Answer) { a.Run = steps(0, "0(0 1 0)") }}, {"b", func(a *api.Answer) { a.Basis = vals("0(0 0 1)") }}, {"a", func(a *api.Answer) { a.Atom.Mod = 2 }},
		{"l", func(a *api.Answer) { a.Limits = make([]api.Limit, 1) }}, {"p", func(a *api.Answer) { a.Pump.Again = []int{0} }}, {"c", func(a *api.Answer) { a.Closed = vals("0(0 0 0)") }},
	}
	for _, x := range []struct {
		kind    int
		yes, no []string
	}{
		{api.AskCover, []string{"", "r"}, []string{"", "b"}}, {api.AskReach, []string{"", "r"}, []string{"", "a", "c"}}, {api.AskBounded, []string{"", "l"}, []string{"", "p"}},
		{api.AskPlace, []string{"", "l"}, []string{"", "p"}}, {api.AskDead, []string{"", "r"}, []string{"", "c"}}, {api.AskHome, []string{"", "c"}, []string{"", "r", "c", "rc"}},
	} {
		q := api.Question{Kind: x.kind}
		if x.kind == api.AskCover || x.kind == api.AskReach {
			q.Target = val("0(0 0 1)")
		}
		for set := range 1 << len(with) {
			name, a := "", api.Answer{Decided: true}
			for i, f := range with {
				if set>>i&1 == 1 {
					name += f.letter
					f.add(&a)
				}
			}
			for _, yes := range []bool{false, true} {
				allowed := x.no
				if yes {
					allowed = x.yes
				}
				a.Yes = yes
				if e := Check(up(), q, a); (e == api.ErrAnswer) == slices.Contains(allowed, name) {
					t.Errorf("kind %d, yes %t, fields %q: Check gives %d", x.kind, yes, name, e)
				}
			}
		}
	}
}
