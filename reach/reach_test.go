package reach

import (
	"fmt"
	"math/rand"
	"testing"

	"coverability/api"
	"coverability/order"
	"coverability/syntax"
	"coverability/values"
)

func parse(text string) api.Model {
	m, line, e := syntax.Parse(text)
	if e != api.OK {
		panic([]any{text, line, e})
	}
	return m
}

func val(s string) api.Value {
	v, e := order.Parse(s)
	if e != api.OK {
		panic(s)
	}
	return v
}

func vals(l ...string) []api.Value {
	var out []api.Value
	for _, s := range l {
		out = append(out, val(s))
	}
	return out
}

func steps(l ...any) []api.Step {
	var out []api.Step
	for i := 0; i < len(l); i += 2 {
		out = append(out, api.Step{Rule: l[i].(int), Config: val(l[i+1].(string))})
	}
	return out
}

func triple() api.Model {
	return parse("model counter\nstates a\nplaces x\nrule r a -> a need x 1 give x 3\nstart 0(0 2)")
}

func finite() api.Model {
	return parse("model counter\nstates a b\nplaces x y\nrule r a -> b need x 1 give y 1\nrule s b -> a need y 1\nstart 0(0 2 0)")
}

func lossy() api.Model {
	return parse("model lossy\nstates a b\nplaces c\nletters l\nrule put a -> b send c l\nrule get b -> b receive c l\nstart 0(0 0)")
}

func up() api.Model {
	return parse("model counter\nstates a\nplaces x\nrule r a -> a give x 1\nstart 0(0 0)")
}

func branching() api.Model { return parse("model branching\nstates a\nplaces x") }

// TestStep checks P33.1 and P33.2 step by step.
func TestStep(t *testing.T) {
	h, e := Start(triple(), val("0(0 5)"))
	if e != api.OK || fmt.Sprint(h) != "{[{0 [{0 []} {2 []}]}] [-1] [-1] 0 0 0}" {
		t.Fatalf("Start gives %v, %d", h, e)
	}
	first := h
	n := 0
	v := api.Verdict{}
	for ; !v.Decided && n < 50; n++ {
		if h, v, e = Step(triple(), val("0(0 5)"), h); e != api.OK || h.Used != n+1 || h.Next != n+1 || h.Candidate != n+1 || len(h.Found) != n+2 || v.Used != n+1 {
			t.Fatalf("Step %d gives %v, %v, %d", n, h, v, e)
		}
	}
	// The candidates are -1, 0 and 1 without a Mod, and then divided by 2: the fourth one, -1 divided by 2, excludes 5.
	want := api.Verdict{Decided: true, Atom: api.Atom{Coefs: []int{-1}, Mod: 2, Values: []int{0}}, Used: 4}
	if !Same(v, want) || fmt.Sprint(first.Found) != "[{0 [{0 []} {2 []}]}]" {
		t.Errorf("the verdict is %v", v)
	}
	h, _ = Start(triple(), val("0(0 2)"))
	h2, v, e := Step(triple(), val("0(0 2)"), h)
	if e != api.OK || !Same(v, api.Verdict{Decided: true, Yes: true, Used: 1}) || h2.Used != 1 || h2.Next != 0 {
		t.Errorf("Step from the target gives %v, %v, %d", h2, v, e)
	}
	h, _ = Start(lossy(), val("0(1 0(0))"))
	h, v, e = Step(lossy(), val("0(1 0(0))"), h)
	if e != api.OK || !Same(v, api.Verdict{Decided: true, Yes: true, Run: steps(0, "0(1 0(0))"), Used: 1}) || fmt.Sprint(h.Before, h.Rules, h.Next, h.Candidate) != "[-1 0] [-1 0] 1 0" {
		t.Errorf("Step gives %v, %v, %d", h, v, e)
	}
	if _, _, e := Step(up(), val("0(0 1)"), api.Hunt{Found: vals("0(0 0)", "0(0 5)"), Before: []int{7}}); e != api.OK {
		t.Errorf("Step of no hunt gives %d", e)
	}
}

// TestDecide checks P33.3 by hand.
func TestDecide(t *testing.T) {
	for _, x := range []struct {
		m      api.Model
		target string
		budget int
		want   api.Verdict
		e      api.Errno
	}{
		{finite(), "0(1 0 1)", 99, api.Verdict{Decided: true, Yes: true, Run: steps(0, "0(1 1 1)", 1, "0(0 1 0)", 0, "0(1 0 1)"), Used: 3}, api.OK}, {finite(), "0(1 0 1)", 2, api.Verdict{Used: 2}, api.OK}, {finite(), "0(1 0 1)", 0, api.Verdict{}, api.OK}, {finite(), "0(1 0 1)", -5, api.Verdict{}, api.OK},
		{lossy(), "0(0 0(0))", 99, api.Verdict{Decided: true, Closed: vals("0(0 0)", "0(1 0)", "0(1 0(0))"), Used: 3}, api.OK}, {up(), "0(0 64)", 99, api.Verdict{Decided: true, Yes: true, Run: climb(64), Used: 64}, api.OK},
		{branching(), "0", 9, api.Verdict{}, api.ErrKind}, {up(), "0(0)", 9, api.Verdict{}, api.ErrConfig}, {api.Model{}, "0", 9, api.Verdict{}, api.ErrKind}, {up(), "0(0 65)", 99, api.Verdict{}, api.ErrLimit}, {up(), "0(0 65)", 64, api.Verdict{Used: 64}, api.OK},
	} {
		if v, e := Decide(x.m, val(x.target), x.budget); e != x.e || !Same(v, x.want) {
			t.Errorf("Decide(%s, %d) gives %v, %d", x.target, x.budget, v, e)
		}
	}
	if v, e := Decide(up(), val("0(0 500)"), 1000); e != api.ErrLimit || v.Decided {
		t.Errorf("Decide of too many configurations gives %v, %d", v, e)
	}
	wide := parse("model timed\nstates a\nplaces u v w\nage 2\nrule r1 a -> a take u 0 3 take v 0 3 take w 0 3\nrule r2 a -> a take u 0 3 take v 0 3 take w 0 3\nrule r3 a -> a take u 0 3 take v 0 3 take w 0 3\nrule r4 a -> a take u 0 3 take v 0 3 take w 0 3\nrule r5 a -> a take u 0 3 take v 0 3 take w 0 3\n" +
		"start 0(0 0(0(0 0) 0(0 1) 0(0 2) 0(0 3) 0(1 0) 0(1 1) 0(1 2) 0(1 3) 0(2 0) 0(2 1) 0(2 2) 0(2 3)))")
	h, _ := Start(wide, val("0(0 0)"))
	if h2, v, e := Step(wide, val("0(0 0)"), h); e != api.ErrLimit || v.Used != 0 || h2.Used != 0 || len(h2.Found) != 1 {
		t.Errorf("Step with too many steps gives %v, %v, %d", h2, v, e)
	}
}

func climb(n int) []api.Step {
	var l []api.Step
	for i := range n {
		l = append(l, api.Step{Config: values.Counter(0, []int{i + 1})})
	}
	return l
}

// TestCertificates checks P33.4.
func TestCertificates(t *testing.T) {
	for _, x := range []struct {
		m      api.Model
		target string
		l      []api.Step
		e      api.Errno
	}{
		{triple(), "0(0 4)", steps(0, "0(0 4)"), api.OK}, {triple(), "0(0 3)", steps(0, "0(0 4)"), api.ErrTarget}, {triple(), "0(0 2)", nil, api.OK}, {triple(), "7", nil, api.ErrTarget}, {triple(), "0(0 5)", steps(0, "0(0 5)"), api.ErrRun},
		{triple(), "0(0 5)", make([]api.Step, 65), api.ErrLimit}, {branching(), "0", nil, api.ErrKind},
	} {
		if e := Proves(x.m, val(x.target), x.l); e != x.e {
			t.Errorf("Proves(%s, %v) gives %d", x.target, x.l, e)
		}
	}
	odd := api.Atom{Coefs: []int{1}, Mod: 2, Values: []int{0}}
	no := func(l ...string) api.Verdict { return api.Verdict{Decided: true, Closed: vals(l...)} }
	all := []string{"0(0 0)", "0(1 0)", "0(1 0(0))"}
	for i, x := range []struct {
		m      api.Model
		target string
		v      api.Verdict
		e      api.Errno
	}{
		{triple(), "0(0 5)", api.Verdict{Decided: true, Atom: odd}, api.OK}, {triple(), "0(0 6)", api.Verdict{Decided: true, Atom: odd}, api.ErrTarget}, {triple(), "0(0 5)", api.Verdict{Atom: odd}, api.ErrAnswer}, {triple(), "0(0 5)", api.Verdict{Decided: true, Yes: true, Atom: odd}, api.ErrAnswer},
		{triple(), "0(0 5)", api.Verdict{Decided: true}, api.ErrAtom}, {triple(), "0(0 5)", api.Verdict{Decided: true, Atom: api.Atom{Coefs: []int{1}, Mod: 3, Values: []int{2}}}, api.ErrOpen}, {triple(), "0(0 5)", api.Verdict{Decided: true, Atom: api.Atom{Coefs: []int{1}, Mod: 2, Values: []int{1}}}, api.ErrBegin},
		{lossy(), "0(0 0(0))", no(all...), api.OK}, {lossy(), "0(1 0(0))", no(all...), api.ErrTarget}, {lossy(), "0(0 0(0))", no(all[1:]...), api.ErrBegin}, {lossy(), "0(0 0(0))", no(all[0], all[2], all[1]), api.ErrOrder}, {lossy(), "0(0 0(0))", no(all[0], all[0], all[1], all[2]), api.ErrOrder},
		{lossy(), "0(0 0(0))", no(all[0], all[2]), api.ErrOpen}, {lossy(), "0(0 0(0))", no("9", "0"), api.ErrConfig}, {lossy(), "0", no(all...), api.ErrConfig}, {lossy(), "0(0 0(0))", api.Verdict{Decided: true, Atom: odd}, api.ErrKind}, {branching(), "0", api.Verdict{}, api.ErrKind}, {api.Model{Kind: 1}, "0", api.Verdict{}, api.ErrLimit},
		{lossy(), "0(0 0(0))", api.Verdict{Decided: true, Closed: vals(all...), Atom: odd}, api.OK}, {up(), "0(0 5)", no("0(0 0)", "0(0 1048576)"), api.ErrOpen}, {up(), "0(0 5)", api.Verdict{Decided: true, Closed: append(climbed(5), val("0(0 1048576)"))}, api.ErrOpen},
	} {
		if e := Refutes(x.m, val(x.target), x.v); e != x.e {
			t.Errorf("%d: Refutes(%s, %v) gives %d", i, x.target, x.v, e)
		}
	}
	top := up()
	top.Start = val("0(0 1048576)")
	if e := Refutes(top, val("0(0 5)"), no("0(0 1048576)")); e != api.ErrLimit {
		t.Errorf("Refutes of a step beyond the limits gives %d", e)
	}
}

func climbed(n int) []api.Value {
	var l []api.Value
	for i := range n {
		l = append(l, values.Counter(0, []int{i}))
	}
	return l
}

// TestLaws checks the consequences for random models.
func TestLaws(t *testing.T) {
	r := rand.New(rand.NewSource(17))
	yes, no := 0, 0
	for range 300 {
		m := api.Model{Kind: api.KindCounter, States: []string{"a", "b"}, Places: []string{"x", "y"}, Start: values.Counter(0, []int{r.Intn(3), r.Intn(3)})}
		for i := range 1 + r.Intn(3) {
			m.Rules = append(m.Rules, api.Rule{Name: "r" + string(rune('0'+i)), From: r.Intn(2), To: r.Intn(2), Need: []int{r.Intn(3), r.Intn(3)}, Give: []int{r.Intn(3), r.Intn(2)}})
		}
		target := values.Counter(r.Intn(2), []int{r.Intn(4), r.Intn(4)})
		v, e := Decide(m, target, 40)
		if e != api.OK || !v.Decided {
			continue
		}
		proved, refuted := Proves(m, target, v.Run), Refutes(m, target, v)
		if (proved == api.OK) != v.Yes || (refuted == api.OK) == v.Yes {
			t.Fatalf("%v, %v: %v, Proves %d, Refutes %d", m, target, v, proved, refuted)
		}
		if again, _ := Decide(m, target, v.Used+5); !Same(again, v) {
			t.Fatalf("%v, %v: %v and then %v", m, target, v, again)
		}
		if v.Yes {
			yes++
		} else {
			no++
		}
	}
	if yes < 10 || no < 10 {
		t.Errorf("%d were reached, %d not", yes, no)
	}
}

// TestSameFields checks P33.3: verdicts that differ in one field.
func TestSameFields(t *testing.T) {
	all := []api.Verdict{{}, {Decided: true}, {Yes: true}, {Used: 1}, {Run: steps(0, "0")}, {Run: steps(1, "0")}, {Atom: api.Atom{Mod: 2}}, {Atom: api.Atom{Coefs: []int{1}}}, {Closed: vals("0")}, {Closed: vals("1")}}
	for i, a := range all {
		for j, b := range all {
			if Same(a, b) != (i == j) {
				t.Errorf("Same of %v and %v is wrong", a, b)
			}
		}
	}
}

// TestMost checks P33.2: as many configurations as there may be, and one more.
func TestMost(t *testing.T) {
	// Eight states, and two channels with up to three equal letters each, have 8 * 4 * 4 configurations.
	m := parse("model lossy\nstates a b c d e f g h\nplaces p q\nletters l k\nrule r a -> b\nrule s b -> c\nrule t c -> d\nrule u d -> e\nrule v e -> f\nrule w f -> g\nrule x g -> h\nstart 0(0 0(0 0 0) 0(0 0 0))")
	target := val("0(0 0(1) 0)")
	if v, e := Decide(m, target, 1000); e != api.OK || !v.Decided || len(v.Closed) != api.MaxGraph || Refutes(m, target, v) != api.OK {
		t.Errorf("Decide gives %d configurations, %d", len(v.Closed), e)
	}
	// A model with a Move has no candidates, so all that x can be is found.
	for n, want := range map[int]api.Errno{127: api.OK, 128: api.ErrLimit} {
		falls := parse("model counter\nstates a b\nplaces x\nrule r a -> a need x 1\nrule s b -> b empty x\nstart 0(0 0)")
		falls.Start = values.Counter(0, []int{n})
		if v, e := Decide(falls, val("0(1 0)"), 1000); e != want || v.Decided != (want == api.OK) {
			t.Errorf("Decide from %d gives %d configurations, %d", n, len(v.Closed), e)
		}
	}
}
