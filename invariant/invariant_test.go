package invariant

import (
	"fmt"
	"math/rand"
	"slices"
	"testing"

	"coverability/api"
	"coverability/counter"
	"coverability/order"
	"coverability/syntax"
	"coverability/values"
)

const w = api.Omega

func parse(text string) api.Model {
	m, line, e := syntax.Parse(text)
	if e != api.OK {
		panic([]any{text, line, e})
	}
	return m
}

func val(s string) api.Value {
	v, e := order.Parse(s)
	if e != api.OK {
		panic(s)
	}
	return v
}

func atom(mod int, coefs []int, values ...int) api.Atom {
	return api.Atom{Coefs: coefs, Mod: mod, Values: values}
}

// triple takes 1 and gives 3: it keeps the rest, divided by 2.
func triple() api.Model {
	return parse("model counter\nstates a\nplaces x\nrule r a -> a need x 1 give x 3\nstart 0(0 2)")
}

// three has a state that no way leads to.
func three() api.Model {
	return parse("model counter\nstates a b c\nplaces x y\nrule r a -> b need x 1 give y 2\nrule s b -> a need y 1 give x 1\nrule t c -> a need x 5\nstart 0(0 3 0)")
}

// TestCheck checks P32.1.
func TestCheck(t *testing.T) {
	moves := parse("model counter\nstates a\nplaces x\nrule r a -> a empty x\nstart 0(0 0)")
	for _, x := range []struct {
		m api.Model
		a api.Atom
		e api.Errno
	}{
		{triple(), atom(0, []int{1}, 0), api.OK}, {triple(), atom(0, []int{-4}, -1<<40), api.OK}, {triple(), atom(0, []int{4}, w), api.OK}, {triple(), atom(0, []int{4}, w-1), api.OK}, {triple(), atom(0, []int{5}, 0), api.ErrAtom}, {triple(), atom(0, []int{-5}, 0), api.ErrAtom},
		{triple(), atom(0, []int{1}, -1<<40-1), api.ErrAtom}, {triple(), atom(0, []int{1}, w+1), api.ErrAtom}, {triple(), atom(1, []int{1}, 0), api.ErrAtom}, {triple(), atom(-1, []int{1}, 0), api.ErrAtom}, {triple(), atom(9, []int{1}, 0), api.ErrAtom}, {triple(), atom(8, []int{1}, 7), api.OK},
		{triple(), atom(2, []int{1}, 2), api.ErrAtom}, {triple(), atom(2, []int{1}, -1), api.ErrAtom}, {triple(), atom(2, []int{1}, w), api.OK}, {triple(), atom(0, nil, 0), api.ErrAtom}, {triple(), atom(0, []int{1, 1}, 0), api.ErrAtom}, {triple(), atom(0, []int{1}), api.ErrAtom}, {triple(), atom(0, []int{1}, 0, 0), api.ErrAtom},
		{moves, atom(0, nil), api.ErrKind}, {api.Model{Kind: 1}, atom(0, nil), api.ErrLimit},
	} {
		_, e1 := Holds(x.m, x.a, val("0"))
		_, e2 := Excludes(x.m, x.a, val("0"))
		e3 := Closed(x.m, x.a)
		want := x.e
		if want == api.OK {
			want = api.ErrConfig
		}
		if e := Check(x.m, x.a); e != x.e || e1 != want || e2 != want || x.e != api.OK && e3 != x.e {
			t.Errorf("%v: errors %d, %d, %d, %d and not %d", x.a, e, e1, e2, e3, x.e)
		}
	}
	if !Same(atom(2, []int{1}, 0), atom(2, []int{1}, 0)) || Same(atom(2, []int{1}, 0), atom(3, []int{1}, 0)) || Same(atom(2, []int{1}, 0), atom(2, []int{2}, 0)) || Same(atom(2, []int{1}, 0), atom(2, []int{1})) || !Same(api.Atom{}, atom(0, []int{})) {
		t.Error("Same is wrong")
	}
}

// TestHolds checks P32.1, P32.2 and P32.4 by hand.
func TestHolds(t *testing.T) {
	m := three()
	for _, x := range []struct {
		a  api.Atom
		c  string
		ok bool
	}{
		{atom(0, []int{1, -1}, 1, 0, 0), "0(0 3 2)", true}, {atom(0, []int{1, -1}, 1, 0, 0), "0(0 3 3)", false}, {atom(0, []int{1, -1}, w, 0, 0), "0(0 3 2)", false}, {atom(3, []int{1, -1}, 2, 0, w), "0(0 0 1)", true}, {atom(3, []int{1, -1}, 2, 0, w), "0(0 0 4)", true},
		{atom(3, []int{1, -1}, 2, 0, w), "0(1 0 4)", false}, {atom(3, []int{1, -1}, 2, 0, w), "0(2 0 0)", false},
	} {
		if ok, e := Holds(m, x.a, val(x.c)); e != api.OK || ok != x.ok {
			t.Errorf("Holds(%v, %s) gives %v, %d", x.a, x.c, ok, e)
		}
	}
	for _, x := range []struct {
		a api.Atom
		e api.Errno
	}{
		{atom(0, []int{1, 1}, 3, 4, w), api.OK}, {atom(0, []int{1, 1}, 3, 3, 0), api.ErrOpen}, {atom(0, []int{1, 1}, 3, 3, 8), api.OK}, {atom(0, []int{1, 1}, 4, 4, w), api.ErrBegin}, {atom(0, []int{1, 1}, w, 4, w), api.ErrBegin}, {atom(0, []int{1, 1}, 3, 5, w), api.ErrOpen},
		{atom(0, []int{1, 1}, 3, w, w), api.ErrOpen}, {atom(0, []int{1, 1}, 3, 2, w), api.ErrOpen}, {atom(2, []int{1, 1}, 1, 0, w), api.ErrOpen}, {atom(2, []int{2, 2}, 0, 0, 0), api.OK}, {atom(2, []int{2, 2}, 0, 0, 1), api.ErrOpen}, {atom(2, []int{2, 2}, 1, 1, 1), api.ErrBegin},
	} {
		if e := Closed(m, x.a); e != x.e {
			t.Errorf("Closed(%v) gives %d", x.a, e)
		}
	}
	good := atom(2, []int{1}, 0)
	for _, x := range []struct {
		a  api.Atom
		c  string
		ok bool
	}{{good, "0(0 5)", true}, {good, "0(0 6)", false}, {atom(2, []int{1}, 1), "0(0 6)", false}, {atom(0, []int{1}, 2), "0(0 1)", true}, {atom(0, []int{-1}, -2), "0(0 3)", false}} {
		if ok, e := Excludes(triple(), x.a, val(x.c)); e != api.OK || ok != x.ok {
			t.Errorf("Excludes(%v, %s) gives %v, %d", x.a, x.c, ok, e)
		}
	}
}

// TestPotential checks P32.3 by hand.
func TestPotential(t *testing.T) {
	moves := parse("model counter\nstates a\nplaces x\nrule r a -> a empty x\nstart 0(0 0)")
	for _, x := range []struct {
		m     api.Model
		coefs []int
		mod   int
		want  api.Atom
		ok    bool
		e     api.Errno
	}{
		{triple(), []int{1}, 2, atom(2, []int{1}, 0), true, api.OK}, {triple(), []int{1}, 0, atom(0, []int{1}, 2), true, api.OK}, {triple(), []int{-1}, 0, api.Atom{}, false, api.OK}, {triple(), []int{1}, 3, api.Atom{}, false, api.OK}, {triple(), []int{-3}, 6, atom(6, []int{-3}, 0), true, api.OK},
		{three(), []int{1, 1}, 0, atom(0, []int{1, 1}, 3, 4, w), true, api.OK}, {three(), []int{2, 1}, 3, api.Atom{}, false, api.OK}, {three(), []int{-1, -1}, 0, api.Atom{}, false, api.OK}, {three(), []int{-2, -2}, 2, atom(2, []int{-2, -2}, 0, 0, w), true, api.OK},
		{three(), []int{1}, 9, api.Atom{}, false, api.ErrLength}, {three(), []int{5, 0}, 0, api.Atom{}, false, api.ErrRange}, {three(), []int{0, 0}, 1, api.Atom{}, false, api.ErrRange}, {three(), []int{0, 0}, 9, api.Atom{}, false, api.ErrRange}, {moves, nil, 9, api.Atom{}, false, api.ErrKind}, {api.Model{}, nil, 9, api.Atom{}, false, api.ErrKind},
	} {
		if a, ok, e := Potential(x.m, x.coefs, x.mod); e != x.e || ok != x.ok || !Same(a, x.want) {
			t.Errorf("Potential(%v, %d) gives %v, %v, %d", x.coefs, x.mod, a, ok, e)
		}
	}
}

// TestCandidates checks P32.5.
func TestCandidates(t *testing.T) {
	for places, n := range map[int]int{0: 0, -1: 0, 7: 0, 1: 24, 2: 72, 6: 729 * 8} {
		if Candidates(places) != n {
			t.Errorf("Candidates(%d) gives %d", places, Candidates(places))
		}
		seen := map[string]bool{}
		for i := range n {
			c, mod, ok := Candidate(places, i)
			if seen[fmt.Sprint(c, mod)] || !ok || len(c) != places || mod == 1 || mod < 0 || mod > api.MaxMod {
				t.Fatalf("Candidate(%d, %d) gives %v, %d, %v", places, i, c, mod, ok)
			}
			seen[fmt.Sprint(c, mod)] = true
		}
		for _, i := range []int{-1, n} {
			if c, mod, ok := Candidate(places, i); ok || c != nil || mod != 0 {
				t.Errorf("Candidate(%d, %d) gives %v, %d, %v", places, i, c, mod, ok)
			}
		}
	}
	for n, want := range map[int]string{0: "[-1 -1] 0", 1: "[0 -1] 0", 5: "[1 0] 0", 9: "[-1 -1] 2", 71: "[1 1] 8"} {
		if c, mod, _ := Candidate(2, n); fmt.Sprint(c, mod) != want {
			t.Errorf("Candidate(2, %d) gives %v, %d", n, c, mod)
		}
	}
}

// TestLaws checks the consequences for random models: a closed atom holds for what is reached, and no closed one is stronger than Potential.
func TestLaws(t *testing.T) {
	r := rand.New(rand.NewSource(16))
	for range 200 {
		m := api.Model{Kind: api.KindCounter, States: []string{"a", "b", "c"}, Places: []string{"x", "y"}, Start: values.Counter(r.Intn(3), []int{r.Intn(3), r.Intn(3)})}
		for i := range 1 + r.Intn(3) {
			m.Rules = append(m.Rules, api.Rule{Name: "r" + string(rune('0'+i)), From: r.Intn(3), To: r.Intn(3), Need: []int{r.Intn(3), r.Intn(3)}, Give: []int{r.Intn(3), r.Intn(3)}})
		}
		seen := []api.Value{m.Start}
		for i := 0; i < len(seen) && i < 60; i++ {
			for rule := range m.Rules {
				if c, e := counter.Apply(m, rule, seen[i]); e == api.OK && !slices.ContainsFunc(seen, func(v api.Value) bool { return values.Same(v, c) }) {
					seen = append(seen, c)
				}
			}
		}
		for n := range Candidates(2) {
			coefs, mod, _ := Candidate(2, n)
			a, ok, e := Potential(m, coefs, mod)
			if e != api.OK || ok && Closed(m, a) != api.OK {
				t.Fatalf("%v: Potential(%v, %d) gives %v, %d", m, coefs, mod, a, e)
			}
			for _, c := range seen {
				if h, _ := Holds(m, a, c); ok && !h {
					t.Fatalf("%v: %v is reached, but %v does not hold", m, c, a)
				}
			}
			if mod > 2 {
				continue
			}
			for range 20 { // no other closed atom has a greater Value
				b := atom(mod, coefs, r.Intn(9)-4, r.Intn(9)-4, r.Intn(9)-4)
				if r.Intn(2) == 0 {
					b.Values[r.Intn(3)] = w
				}
				if Check(m, b) != api.OK || Closed(m, b) != api.OK {
					continue
				}
				if mod == 0 && !ok {
					t.Fatalf("%v: %v is closed, but Potential has none", m, b)
				}
				for i := range b.Values {
					if mod == 0 && b.Values[i] > a.Values[i] {
						t.Fatalf("%v: %v is closed and greater than %v", m, b, a)
					}
				}
			}
		}
	}
}

// TestErrorsAlone checks that errors come without a result.
func TestErrorsAlone(t *testing.T) {
	good := atom(2, []int{1}, 0)
	for _, a := range []api.Atom{good, atom(1, []int{1}, 0)} {
		ok1, e1 := Holds(triple(), a, val("0"))
		ok2, e2 := Excludes(triple(), a, val("0"))
		if e1 == api.OK || e2 == api.OK || ok1 || ok2 {
			t.Errorf("%v: %v, %d, %v, %d", a, ok1, e1, ok2, e2)
		}
	}
}
