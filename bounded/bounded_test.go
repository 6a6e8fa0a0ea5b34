package bounded

import (
	"fmt"
	"math/rand"
	"slices"
	"testing"

	"coverability/api"
	"coverability/forward"
	"coverability/order"
	"coverability/run"
	"coverability/syntax"
	"coverability/values"
)

const w = api.Omega

func parse(text string) api.Model {
	m, line, e := syntax.Parse(text)
	if e != api.OK {
		panic([]any{text, line, e})
	}
	return m
}

func grown(m api.Model) api.Grown {
	t, _ := forward.Start(m)
	t, _, _ = forward.Run(m, t, 10000)
	return t
}

func limit(state int, v ...int) api.Limit { return api.Limit{State: state, Vector: v} }

func up() api.Model {
	return parse("model counter\nstates a b\nplaces x y\nrule r a -> a give x 1\nrule s a -> b need x 2 give y 1\nrule t b -> a need y 1 give x 2\nstart 0(0 0 0)")
}

func finite() api.Model {
	return parse("model counter\nstates a b\nplaces x y\nrule r a -> b need x 1 give y 1\nrule s b -> a need y 1\nstart 0(0 2 0)")
}

// TestBound checks P29.1.
func TestBound(t *testing.T) {
	l := []api.Limit{limit(0, 3, w), limit(1, 5, 2)}
	for _, x := range []struct {
		l     []api.Limit
		place int
		n     int
		ok    bool
	}{{l, 0, 5, true}, {l, 1, 0, false}, {l, 2, 0, false}, {l, -1, 0, false}, {nil, 7, 0, true}, {[]api.Limit{limit(0, 0)}, 0, 0, true}, {[]api.Limit{limit(0, -4)}, 0, 0, true}, {[]api.Limit{limit(0, 4), limit(0)}, 0, 0, false}} {
		if n, ok := Bound(x.l, x.place); n != x.n || ok != x.ok {
			t.Errorf("Bound(%v, %d) gives %d, %v", x.l, x.place, n, ok)
		}
	}
	if All(l) || !All(nil) || !All(l[1:]) {
		t.Error("All is wrong")
	}
}

// TestHolds checks P29.2.
func TestHolds(t *testing.T) {
	good := []api.Limit{limit(0, 2, 0), limit(1, 1, 1)}
	moves := parse("model counter\nstates a\nplaces x\nrule r a -> a empty x\nstart 0(0 0)")
	high := parse("model counter\nstates a\nplaces x\nrule r a -> a give x 1\nstart 0(0 1048576)")
	for _, x := range []struct {
		m api.Model
		l []api.Limit
		e api.Errno
	}{
		{finite(), good, api.OK}, {finite(), []api.Limit{limit(1, w, w), limit(0, w, w)}, api.OK}, {finite(), []api.Limit{limit(0, 2, 0), limit(1, 1, 0)}, api.ErrOpen}, {finite(), good[:1], api.ErrOpen}, {finite(), good[1:], api.ErrBegin}, {finite(), nil, api.ErrBegin},
		{finite(), []api.Limit{limit(2), limit(0, 2, 0)}, api.ErrRange}, {finite(), []api.Limit{limit(-1, 0, 0)}, api.ErrRange}, {finite(), []api.Limit{limit(0, -1)}, api.ErrLength}, {finite(), []api.Limit{limit(0, -1, 0), limit(0)}, api.ErrRange},
		{finite(), []api.Limit{limit(0, w+1, 0)}, api.ErrRange}, {finite(), make([]api.Limit, 257), api.ErrLimit}, {finite(), slices.Repeat(good, 128), api.OK}, {moves, make([]api.Limit, 257), api.ErrKind}, {api.Model{Kind: 1}, nil, api.ErrLimit},
		{high, []api.Limit{limit(0, w)}, api.OK}, {high, []api.Limit{limit(0, api.MaxNumber)}, api.ErrOpen}, {up(), []api.Limit{limit(0, w, 0), limit(1, w, 1)}, api.OK}, {up(), []api.Limit{limit(0, 5, 0), limit(1, w, 1)}, api.ErrOpen},
	} {
		if e := Holds(x.m, x.l); e != x.e {
			t.Errorf("Holds(%v) gives %d", x.l, e)
		}
	}
}

// TestGrows checks P29.3.
func TestGrows(t *testing.T) {
	high := parse("model counter\nstates a\nplaces x\nrule r a -> a give x 1\nstart 0(0 1048576)")
	for _, x := range []struct {
		m             api.Model
		before, again []int
		out           []int
		e             api.Errno
	}{
		{up(), nil, []int{0}, []int{0}, api.OK}, {up(), []int{0, 0}, []int{1, 2, 0}, []int{0}, api.OK}, {up(), []int{0}, []int{1}, nil, api.ErrBlocked}, {up(), []int{0, 0}, []int{1}, nil, api.ErrCycle}, {up(), []int{0, 0}, []int{1, 2}, nil, api.ErrNone},
		{up(), []int{0}, nil, nil, api.ErrNone}, {up(), nil, nil, nil, api.ErrNone}, {up(), []int{1}, []int{9}, nil, api.ErrRule}, {up(), []int{-1}, nil, nil, api.ErrRule}, {up(), make([]int, 40), slices.Repeat([]int{9}, 25), nil, api.ErrLimit},
		{up(), make([]int, 63), []int{0}, []int{0}, api.OK}, {high, nil, []int{0}, nil, api.ErrLimit}, {finite(), nil, []int{0, 1}, nil, api.ErrCycle}, {parse("model branching\nstates a\nplaces x"), make([]int, 99), nil, nil, api.ErrKind},
	} {
		if l, e := Grows(x.m, api.Pump{Before: x.before, Again: x.again}); e != x.e || !slices.Equal(l, x.out) {
			t.Errorf("Grows(%v, %v) gives %v, %d", x.before, x.again, l, e)
		}
	}
}

// TestFindAndRepeat checks P29.4 by hand.
func TestFindAndRepeat(t *testing.T) {
	if p, ok := Find(up(), grown(up())); !ok || len(p.Before) != 0 || !slices.Equal(p.Again, []int{0}) {
		t.Errorf("Find gives %v, %v", p, ok)
	}
	if p, ok := Find(finite(), grown(finite())); ok || p.Before != nil || p.Again != nil {
		t.Errorf("Find gives %v, %v", p, ok)
	}
	later := parse("model counter\nstates a b\nplaces x\nrule r a -> b give x 3\nrule s b -> b need x 1 give x 2\nstart 0(0 0)")
	if p, ok := Find(later, grown(later)); !ok || !slices.Equal(p.Before, []int{0}) || !slices.Equal(p.Again, []int{1}) {
		t.Errorf("Find gives %v, %v", p, ok)
	}
	p := api.Pump{Before: []int{0}, Again: []int{1}}
	l, e := Repeat(later, p, 2)
	if e != api.OK || fmt.Sprint(l) != "[{0 {0 [{1 []} {3 []}]}} {1 {0 [{1 []} {4 []}]}} {1 {0 [{1 []} {5 []}]}}]" {
		t.Errorf("Repeat gives %v, %d", l, e)
	}
	if l, e := Repeat(later, p, 0); e != api.OK || len(l) != 1 {
		t.Errorf("Repeat gives %v, %d", l, e)
	}
	high := parse("model counter\nstates a\nplaces x\nrule r a -> a give x 16\nstart 0(0 1048550)")
	for _, x := range []struct {
		m     api.Model
		p     api.Pump
		times int
		e     api.Errno
	}{{later, p, -1, api.ErrLimit}, {later, p, 64, api.ErrLimit}, {later, p, 63, api.OK}, {later, p, 1 << 62, api.ErrLimit}, {later, api.Pump{Again: []int{1}}, 1, api.ErrBlocked}, {high, api.Pump{Again: []int{0}}, 1, api.OK}, {high, api.Pump{Again: []int{0}}, 2, api.ErrLimit}} {
		if l, e := Repeat(x.m, x.p, x.times); e != x.e || e != api.OK && l != nil {
			t.Errorf("Repeat(%v, %d) gives %v, %d", x.p, x.times, l, e)
		}
	}
	if p, ok := Find(later, api.Grown{Nodes: []api.Node{{Parent: 3, Rule: 9}, {Vector: []int{w}, Parent: 0, Rule: 0}}}); ok {
		t.Errorf("Find in no tree gives %v", p)
	}
}

// TestLaws checks the consequences for random models.
func TestLaws(t *testing.T) {
	r := rand.New(rand.NewSource(14))
	found := 0
	for range 400 {
		m := api.Model{Kind: api.KindCounter, States: []string{"a", "b"}, Places: []string{"x", "y"}, Start: values.Counter(0, []int{r.Intn(3), r.Intn(3)})}
		for i := range 1 + r.Intn(3) {
			m.Rules = append(m.Rules, api.Rule{Name: "r" + string(rune('0'+i)), From: r.Intn(2), To: r.Intn(2), Need: []int{r.Intn(3), r.Intn(3)}, Give: []int{r.Intn(3), r.Intn(2)}})
		}
		tree := grown(m)
		if !forward.Done(tree) {
			continue
		}
		l := forward.Limits(tree)
		p, ok := Find(m, tree)
		if e := Holds(m, l); e != api.OK || ok == All(l) {
			t.Fatalf("%v: Holds gives %d, Find %v, %v", m, e, p, ok)
		}
		if !ok {
			continue
		}
		found++
		places, e := Grows(m, p)
		if e != api.OK || len(places) == 0 {
			t.Fatalf("%v: Grows(%v) gives %v, %d", m, p, places, e)
		}
		first, e1 := Repeat(m, p, 0)
		steps, e2 := Repeat(m, p, 3)
		before, _, e3 := run.Replay(m, first)
		after, _, e4 := run.Replay(m, steps)
		if e1 != api.OK || e2 != api.OK || e3 != api.OK || e4 != api.OK || order.Compare(before, after) == 0 {
			t.Fatalf("%v: Repeat(%v) gives %v, %d", m, p, steps, e2)
		}
		for _, place := range places {
			if _, bound := Bound(l, place); bound || after.Kids[1+place].N < before.Kids[1+place].N+3 {
				t.Errorf("%v: place %d does not grow", m, place)
			}
		}
	}
	if found < 30 {
		t.Errorf("only %d pumps were found", found)
	}
}

// TestJustEnough checks P29.3 and P29.4: rules and times at their limits.
func TestJustEnough(t *testing.T) {
	m := parse("model counter\nstates a\nplaces x\nrule r a -> a give x 1\nstart 0(0 0)")
	if l, e := Repeat(m, api.Pump{Again: []int{0}}, 64); e != api.OK || len(l) != 64 {
		t.Errorf("Repeat gives %d steps, %d", len(l), e)
	}
	if l, e := Repeat(m, api.Pump{Again: []int{0}}, 65); e != api.ErrLimit || l != nil {
		t.Errorf("Repeat gives %d steps, %d", len(l), e)
	}
	if _, e := Grows(m, api.Pump{Again: []int{1}}); e != api.ErrRule {
		t.Errorf("Grows gives %d", e)
	}
}
