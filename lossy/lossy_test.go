package lossy

import (
	"fmt"
	"slices"
	"strings"
	"testing"

	"coverability/api"
	"coverability/order"
	"coverability/step"
	"coverability/syntax"
	"coverability/values"
)

func parse(text string) api.Model {
	m, line, e := syntax.Parse(text)
	if e != api.OK {
		panic([]any{text, line, e})
	}
	return m
}

func val(s string) api.Value {
	v, e := order.Parse(s)
	if e != api.OK {
		panic(s)
	}
	return v
}

// cloud reads products: a digit is an optional letter, digits in brackets are a star.
func cloud(state int, products ...string) api.Cloud {
	c := api.Cloud{State: state}
	for _, s := range products {
		var p []api.Term
		star := false
		for _, x := range s {
			switch {
			case x == '[':
				p, star = append(p, api.Term{Star: true}), true
			case x == ']':
				star = false
			case star:
				p[len(p)-1].Letters = append(p[len(p)-1].Letters, int(x-'0'))
			default:
				p = append(p, api.Term{Letters: []int{int(x - '0')}})
			}
		}
		c.Words = append(c.Words, p)
	}
	return c
}

func text(l ...api.Cloud) string {
	var b strings.Builder
	for _, c := range l {
		b.WriteString(fmt.Sprint(c.State))
		for _, p := range c.Words {
			b.WriteString("/")
			for _, t := range p {
				s := strings.ReplaceAll(strings.Trim(fmt.Sprint(t.Letters), "[]"), " ", "")
				if t.Star {
					s = "[" + s + "]"
				}
				b.WriteString(s)
			}
		}
		b.WriteString(" ")
	}
	return strings.TrimSpace(b.String())
}

func loop() api.Model {
	return parse("model lossy\nstates a\nplaces c\nletters l\nrule put a -> a send c l\nstart 0(0 0)")
}

func two() api.Model {
	return parse(`model lossy
states a b
places c d
letters l k
rule put a -> a send c l
rule go a -> b send d k
rule get b -> a receive c l
rule back b -> b receive d k
rule idle b -> a
start 0(0 0(1 1) 0)`)
}

// turns sends one message again and again until it comes, and then the other one.
func turns() api.Model {
	return parse(`model lossy
states s0 s1
places c
letters l k
rule put0 s0 -> s0 send c l
rule turn0 s0 -> s1 receive c l
rule put1 s1 -> s1 send c k
rule turn1 s1 -> s0 receive c k
start 0(0 0)`)
}

// pipes has two channels that are filled in one state, and emptied in others.
func pipes() api.Model {
	return parse(`model lossy
states a b s
places c d
letters l k
rule put a -> a send c l
rule put2 a -> a send d k
rule go a -> b send d l
rule get b -> b receive c l
rule back b -> s receive d k
rule last s -> s receive d l
start 0(0 0(1 1) 0)`)
}

// TestErrors checks the errors of P31.1 to P31.5, in order.
func TestErrors(t *testing.T) {
	counter := parse("model counter\nstates a\nplaces x\nstart 0(0 0)")
	bad := cloud(9, "7")
	for _, x := range []struct {
		m api.Model
		c api.Cloud
		e api.Errno
	}{
		{counter, bad, api.ErrKind}, {api.Model{Kind: 2}, bad, api.ErrLimit}, {two(), bad, api.ErrRange}, {two(), cloud(-1), api.ErrRange}, {two(), cloud(0, "7"), api.ErrLength}, {two(), cloud(0, "0", "7"), api.ErrWord},
		{two(), cloud(0, strings.Repeat("0", 25), "7"), api.ErrLimit}, {two(), cloud(0, "0", ""), api.OK},
	} {
		_, e1 := Has(x.m, x.c, x.m.Start)
		_, e2 := Leq(x.m, x.c, x.c)
		_, ok, e3 := Post(x.m, 0, x.c)
		_, e4 := Loop(x.m, x.c)
		_, e5 := Maximise(x.m, []api.Cloud{x.c})
		e6 := Holds(x.m, []api.Cloud{x.c})
		_, e7 := Excludes(x.m, []api.Cloud{x.c}, x.m.Start)
		if x.e == api.OK {
			continue
		}
		if e := Check(x.m, x.c); e != x.e || e1 != x.e || e2 != x.e || e3 != x.e || e4 != x.e || e5 != x.e || e6 != x.e || e7 != x.e || ok {
			t.Errorf("%s: errors %d, %d, %d, %d, %d, %d, %d, %d and not %d", text(x.c), e, e1, e2, e3, e4, e5, e6, e7, x.e)
		}
	}
	good := cloud(0, "0", "")
	if _, e := Leq(two(), good, bad); e != api.ErrRange {
		t.Errorf("Leq gives %d", e)
	}
	if _, e := Has(two(), good, val("0")); e != api.ErrConfig {
		t.Errorf("Has gives %d", e)
	}
	if _, e := Excludes(two(), nil, val("0")); e != api.ErrConfig {
		t.Errorf("Excludes gives %d", e)
	}
	if _, _, e := Post(two(), 5, good); e != api.ErrRule {
		t.Errorf("Post gives %d", e)
	}
	if _, _, e := Post(two(), -1, good); e != api.ErrRule {
		t.Errorf("Post gives %d", e)
	}
	full := cloud(0, "", strings.Repeat("01", 12))
	if _, ok, e := Post(two(), 1, cloud(0, "", strings.Repeat("10", 12))); e != api.ErrLimit || ok {
		t.Errorf("Post gives %v, %d", ok, e)
	}
	full.Words[0], full.Words[1] = full.Words[1], nil
	if c, e := Loop(two(), full); e != api.ErrLimit || c.Words != nil {
		t.Errorf("Loop gives %s, %d", text(c), e)
	}
	full = cloud(0, strings.Repeat("10", 12), "")
	if c, e := Loop(two(), full); e != api.OK || len(c.Words[0]) != 24 {
		t.Errorf("Loop gives %s, %d", text(c), e)
	}
	for _, m := range []api.Model{counter, {Kind: 2}} {
		_, e1 := Begin(m)
		_, e2 := Maximise(m, nil)
		_, ok, e3 := Explore(m, 9)
		if e := Holds(m, make([]api.Cloud, 65)); e == api.OK || e1 != e || e2 != e || e3 != e || ok {
			t.Errorf("errors %d, %d, %d, %d", e, e1, e2, e3)
		}
	}
	if e := Holds(two(), make([]api.Cloud, 65)); e != api.ErrLimit {
		t.Errorf("Holds gives %d", e)
	}
	var many []api.Cloud
	for i := range 128 {
		if s := fmt.Sprintf("%07b", i); true {
			many = append(many, cloud(0, s, ""))
		}
	}
	if l, e := Maximise(two(), many); e != api.ErrLimit || l != nil {
		t.Errorf("Maximise gives %d, %d", len(l), e)
	}
}

// TestClouds checks P31.1 to P31.3 by hand.
func TestClouds(t *testing.T) {
	m := two()
	if c, e := Begin(m); e != api.OK || text(c) != "0/11/" {
		t.Errorf("Begin gives %s, %d", text(c), e)
	}
	for _, x := range []struct {
		rule int
		c    api.Cloud
		want string
		ok   bool
	}{
		{0, cloud(0, "1", "[0]0"), "0/10/[0]", true}, {1, cloud(0, "[1]1", "0"), "1/[1]/01", true}, {2, cloud(1, "101", "0"), "0/1/0", true}, {2, cloud(1, "[0]1", "0"), "0/[0]1/0", true}, {2, cloud(1, "11", "0"), "", false}, {3, cloud(1, "11", "1"), "1/11/", true},
		{4, cloud(1, "11[1]", "1"), "0/[1]/1", true}, {4, cloud(0, "11", "1"), "", false}, {0, cloud(1, "11", "1"), "", false},
	} {
		if c, ok, e := Post(m, x.rule, x.c); e != api.OK || ok != x.ok || ok && text(c) != x.want || !ok && c.Words != nil {
			t.Errorf("Post(%d, %s) gives %s, %v, %d", x.rule, text(x.c), text(c), ok, e)
		}
	}
	for _, x := range [][2]string{{"1", "0/1[0]/"}, {"10", "0/1[0]/"}, {"", "0/[0]/"}, {"[01]", "0/[01]/"}, {"1[0]", "0/1[0]/"}, {"[01]0", "0/[01]/"}} {
		if c, e := Loop(m, cloud(0, x[0], "")); e != api.OK || text(c) != x[1] {
			t.Errorf("Loop(%s) gives %s, %d", x[0], text(c), e)
		}
	}
	if c, e := Loop(m, cloud(1, "[1]1", "")); e != api.OK || text(c) != "1/[1]/" {
		t.Errorf("Loop of a state without such rules gives %s, %d", text(c), e)
	}
	if ok, e := Has(m, cloud(1, "1[0]", "1"), val("0(1 0(0 0) 0)")); e != api.OK || !ok {
		t.Errorf("Has gives %v, %d", ok, e)
	}
	if ok, e := Has(m, cloud(1, "1[0]", "1"), val("0(0 0(0 0) 0)")); e != api.OK || ok {
		t.Errorf("Has gives %v, %d", ok, e)
	}
	if ok, e := Has(m, cloud(1, "1[0]", "1"), val("0(1 0 0(0))")); e != api.OK || ok {
		t.Errorf("Has gives %v, %d", ok, e)
	}
	for _, x := range []struct {
		a, b api.Cloud
		ok   bool
	}{{cloud(0, "0", ""), cloud(0, "[0]", "1"), true}, {cloud(0, "0", ""), cloud(1, "[0]", "1"), false}, {cloud(0, "[0]", ""), cloud(0, "0", "1"), false}, {cloud(0, "0", "1"), cloud(0, "0", ""), false}} {
		if ok, e := Leq(m, x.a, x.b); e != api.OK || ok != x.ok {
			t.Errorf("Leq(%s, %s) gives %v, %d", text(x.a), text(x.b), ok, e)
		}
	}
	l := []api.Cloud{cloud(1, "0", ""), cloud(0, "[1]1", ""), cloud(0, "[0]", "1"), cloud(0, "0", ""), cloud(0, "[1]", "")}
	if k, e := Maximise(m, l); e != api.OK || text(k...) != "0/[0]/1 0/[1]/ 1/0/" {
		t.Errorf("Maximise gives %s, %d", text(k...), e)
	}
	if k, e := Maximise(m, nil); e != api.OK || len(k) != 0 {
		t.Errorf("Maximise of nothing gives %s, %d", text(k...), e)
	}
}

// TestExplore checks P31.4 and P31.5 by hand.
func TestExplore(t *testing.T) {
	if l, ok, e := Explore(loop(), 9); e != api.OK || !ok || text(l...) != "0/[0]" {
		t.Errorf("Explore gives %s, %v, %d", text(l...), ok, e)
	}
	for _, budget := range []int{-1, 0} {
		if l, ok, e := Explore(loop(), budget); e != api.OK || ok || text(l...) != "0/[0]" {
			t.Errorf("Explore with %d gives %s, %v, %d", budget, text(l...), ok, e)
		}
	}
	if l, ok, e := Explore(two(), 1); e != api.OK || ok || text(l...) != "0/11[0]/ 1/11[0]/1" {
		t.Errorf("Explore with 1 gives %s, %v, %d", text(l...), ok, e)
	}
	m := loop()
	for _, x := range []struct {
		l []api.Cloud
		e api.Errno
	}{{[]api.Cloud{cloud(0, "[0]")}, api.OK}, {[]api.Cloud{cloud(0, "000")}, api.ErrOpen}, {nil, api.ErrBegin}, {[]api.Cloud{cloud(0, strings.Repeat("0", 24))}, api.ErrLimit}, {slices.Repeat([]api.Cloud{cloud(0, "[0]")}, 64), api.OK}} {
		if e := Holds(m, x.l); e != x.e {
			t.Errorf("Holds(%s) gives %d", text(x.l...), e)
		}
	}
	if ok, e := Excludes(two(), []api.Cloud{cloud(0, "1", ""), cloud(1, "0", "1")}, val("0(1 0(1) 0)")); e != api.OK || !ok {
		t.Errorf("Excludes gives %v, %d", ok, e)
	}
	if ok, e := Excludes(two(), []api.Cloud{cloud(0, "1", ""), cloud(1, "[01]", "1")}, val("0(1 0(1) 0)")); e != api.OK || ok {
		t.Errorf("Excludes gives %v, %d", ok, e)
	}
	grows := parse("model lossy\nstates a b\nplaces c\nletters l k\nrule r a -> b send c l\nrule s b -> a send c k\nstart 0(0 0)")
	if l, ok, e := Explore(grows, 1000); e != api.ErrLimit || ok || l != nil {
		t.Errorf("Explore without an end gives %s, %v, %d", text(l...), ok, e)
	}
}

// TestAgainstExploring checks the consequences: what is reached is in the clouds, and these hold.
func TestAgainstExploring(t *testing.T) {
	for _, m := range []api.Model{loop(), turns(), pipes()} {
		l, ok, e := Explore(m, 1000)
		if e != api.OK || !ok {
			t.Errorf("Explore gives %s, %v, %d", text(l...), ok, e)
			continue
		}
		if e := Holds(m, l); e != api.OK {
			t.Errorf("Holds(%s) gives %d", text(l...), e)
		}
		if again, _ := Maximise(m, l); text(again...) != text(l...) {
			t.Errorf("Explore gives %s, which is not maximal", text(l...))
		}
		seen := []api.Value{m.Start}
		for i := 0; i < len(seen) && i < 300; i++ {
			if out, e := Excludes(m, l, seen[i]); e != api.OK || out {
				t.Fatalf("%v is reached, but not in %s", seen[i], text(l...))
			}
			steps, _ := step.All(m, seen[i])
			for _, s := range steps {
				if !slices.ContainsFunc(seen, func(v api.Value) bool { return values.Same(v, s.Config) }) {
					seen = append(seen, s.Config)
				}
			}
		}
	}
}

// TestErrorsAlone checks that errors come without a result, and which states there are.
func TestErrorsAlone(t *testing.T) {
	good, bad := cloud(0, "0", ""), cloud(2, "0", "")
	ok1, e1 := Has(two(), bad, two().Start)
	ok2, e2 := Has(two(), good, val("0"))
	ok3, e3 := Leq(two(), bad, good)
	ok4, e4 := Excludes(two(), []api.Cloud{bad}, two().Start)
	ok5, e5 := Excludes(two(), nil, val("0"))
	if ok1 || ok2 || ok3 || ok4 || ok5 || e1 != api.ErrRange || e2 != api.ErrConfig || e3 != api.ErrRange || e4 != api.ErrRange || e5 != api.ErrConfig {
		t.Errorf("%v, %d, %v, %d, %v, %d, %v, %d, %v, %d", ok1, e1, ok2, e2, ok3, e3, ok4, e4, ok5, e5)
	}
}

// TestMost checks P31.3 and P31.4: as many clouds as there may be.
func TestMost(t *testing.T) {
	var l []api.Cloud
	for i := range 64 {
		l = append(l, cloud(0, fmt.Sprintf("%06b", i), ""))
	}
	if m, e := Maximise(two(), l); e != api.OK || len(m) != 64 {
		t.Errorf("Maximise gives %d, %d", len(m), e)
	}
	// Three, four and four rules lead to 3, 3 * 4 and 3 * 4 * 4 clouds beside the first one; one rule more to one cloud too many.
	text := "model lossy\nstates a b c d e\nplaces p\nletters l0 l1 l2 l3\n"
	for i, x := range []struct {
		from, to string
		letters  int
	}{{"a", "b", 3}, {"b", "c", 4}, {"c", "d", 4}} {
		for k := range x.letters {
			text += fmt.Sprintf("rule r%d%d %s -> %s send p l%d\n", i, k, x.from, x.to, k)
		}
	}
	if l, ok, e := Explore(parse(text+"start 0(0 0)"), 1000); e != api.OK || !ok || len(l) != 64 || Holds(parse(text+"start 0(0 0)"), l) != api.OK {
		t.Errorf("Explore gives %d clouds, %v, %d", len(l), ok, e)
	}
	more := parse(text + "rule last a -> e\nstart 0(0 0)")
	if l, ok, e := Explore(more, 1000); e != api.ErrLimit || ok || l != nil {
		t.Errorf("Explore gives %d clouds, %v, %d", len(l), ok, e)
	}
	if l, ok, e := Explore(more, 3); e != api.OK || ok || len(l) == 0 {
		t.Errorf("Explore gives %d clouds, %v, %d", len(l), ok, e)
	}
}
