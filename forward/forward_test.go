package forward

import (
	"fmt"
	"math/rand"
	"slices"
	"testing"

	"coverability/api"
	"coverability/counter"
	"coverability/syntax"
	"coverability/values"
	"coverability/vector"
)

const w = api.Omega

func parse(text string) api.Model {
	m, line, e := syntax.Parse(text)
	if e != api.OK {
		panic([]any{text, line, e})
	}
	return m
}

func grown(m api.Model, budget int) api.Grown {
	t, _ := Start(m)
	t, _, _ = Run(m, t, budget)
	return t
}

func up() api.Model {
	return parse("model counter\nstates a\nplaces x\nrule r a -> a give x 1\nstart 0(0 0)")
}

// pair makes y grow as often as x was moved.
func pair() api.Model {
	return parse("model counter\nstates a b\nplaces x y\nrule r a -> a give x 1\nrule s a -> b\nrule t b -> b need x 1 give y 2\nstart 0(0 0 0)")
}

// TestExample checks P28.1 and P28.2 step by step.
func TestExample(t *testing.T) {
	m := up()
	tree, e := Start(m)
	if e != api.OK || fmt.Sprint(tree) != "{[{0 [0] -1 -1}] 0}" || Done(tree) {
		t.Fatalf("Start gives %v, %d", tree, e)
	}
	want := []string{
		fmt.Sprintf("{[{0 [0] -1 -1} {0 [%d] 0 0}] 1}", w),
		fmt.Sprintf("{[{0 [0] -1 -1} {0 [%d] 0 0} {0 [%d] 1 0}] 2}", w, w),
		fmt.Sprintf("{[{0 [0] -1 -1} {0 [%d] 0 0} {0 [%d] 1 0}] 3}", w, w),
	}
	for i, s := range want {
		next, ok, e := Step(m, tree)
		if e != api.OK || !ok || fmt.Sprint(next) != s || Done(next) != (i == 2) || Same(next, tree) {
			t.Fatalf("Step %d gives %v, %v, %d", i, next, ok, e)
		}
		tree = next
	}
	if again, ok, e := Step(m, tree); e != api.OK || ok || !Same(again, tree) {
		t.Errorf("Step of a tree that is done gives %v, %v, %d", again, ok, e)
	}
	begin, _ := Start(m)
	for budget, n := range map[int]int{-1: 0, 0: 0, 2: 2, 3: 3, 99: 3} {
		if r, k, e := Run(m, begin, budget); e != api.OK || k != n || r.Next != n {
			t.Errorf("Run with %d gives %v, %d, %d", budget, r, k, e)
		}
	}
}

// TestErrors checks the errors of P28.1 and P28.2.
func TestErrors(t *testing.T) {
	given := api.Grown{Nodes: []api.Node{{Vector: []int{1}, Parent: -1, Rule: -1}}}
	for _, x := range []struct {
		m api.Model
		e api.Errno
	}{{parse("model branching\nstates a\nplaces x"), api.ErrKind}, {parse("model counter\nstates a\nplaces x\nrule r a -> a empty x\nstart 0(0 0)"), api.ErrKind}, {api.Model{Kind: 1}, api.ErrLimit}} {
		s, e1 := Start(x.m)
		u, ok, e2 := Step(x.m, given)
		v, n, e3 := Run(x.m, given, 4)
		if e1 != x.e || e2 != x.e || e3 != x.e || s.Nodes != nil || ok || n != 0 || !Same(u, given) || !Same(v, given) {
			t.Errorf("errors %d, %d, %d", e1, e2, e3)
		}
	}
	big := parse("model counter\nstates a b\nplaces x\nrule r a -> b\nrule s b -> a give x 1\nstart 0(0 1048576)")
	tree, _ := Start(big)
	tree, n, e := Run(big, tree, 9)
	if e != api.ErrLimit || n != 1 || len(tree.Nodes) != 2 || tree.Next != 1 {
		t.Errorf("Run beyond MaxNumber gives %v, %d, %d", tree, n, e)
	}
	if u, ok, e := Step(big, tree); e != api.ErrLimit || ok || !Same(u, tree) {
		t.Errorf("Step beyond MaxNumber gives %v, %v, %d", u, ok, e)
	}
	wide := parse(`model counter
states a b c d
places x
rule r1 a -> a
rule r2 a -> b
rule r3 a -> c
rule r4 a -> d
rule r5 b -> a
rule r6 b -> c
rule r7 b -> d
rule r8 c -> a
rule r9 c -> b
rule s1 c -> d
rule s2 d -> a
rule s3 d -> b
start 0(0 0)`)
	tree = grown(wide, 10000)
	if n := len(tree.Nodes); n > api.MaxTree {
		t.Errorf("the tree has %d nodes", n)
	}
	many := parse("model counter\nstates a b\nplaces x y\nrule r1 a -> b need x 1\nrule r2 b -> a\nrule r3 b -> a\nrule r4 a -> b need x 1 give y 1\nstart 0(0 12 0)")
	tree, _ = Start(many)
	tree, _, e = Run(many, tree, 10000)
	if e != api.ErrLimit || len(tree.Nodes) > api.MaxTree || Done(tree) {
		t.Errorf("Run beyond MaxTree gives %d nodes, %d", len(tree.Nodes), e)
	}
}

// TestRaise checks P28.2: places become unbounded one after the other, and from the nearest ancestor on.
func TestRaise(t *testing.T) {
	tree := grown(pair(), 1000)
	if !Done(tree) || fmt.Sprint(Limits(tree)) != fmt.Sprintf("[{0 [%d 0]} {1 [%d %d]}]", w, w, w) {
		t.Errorf("Limits gives %v", Limits(tree))
	}
	nodes := []api.Node{{Vector: []int{0, 3}, Parent: -1}, {Vector: []int{1, 0}, Parent: 0}}
	v := []int{1, 4}
	raise(nodes, 1, 0, v)
	if !slices.Equal(v, []int{w, w}) {
		t.Errorf("raise gives %v", v)
	}
	v = []int{1, 4}
	raise(nodes, 1, 1, v)
	if !slices.Equal(v, []int{1, 4}) {
		t.Errorf("raise with another state gives %v", v)
	}
}

// TestLimits checks P28.3 by hand.
func TestLimits(t *testing.T) {
	node := func(state int, v ...int) api.Node { return api.Node{State: state, Vector: v} }
	tree := api.Grown{Nodes: []api.Node{node(1, 2, 3), node(0, 1, 1), node(1, 2, 2), node(0, 0, w), node(0, 1, 1), node(1, 0, 4)}}
	if l := Limits(tree); fmt.Sprint(l) != fmt.Sprintf("[{0 [0 %d]} {0 [1 1]} {1 [0 4]} {1 [2 3]}]", w) {
		t.Errorf("Limits gives %v", l)
	}
	l := []api.Limit{{State: 1, Vector: []int{2, w}}}
	if !Covers(l, 1, []int{2, 9}) || Covers(l, 0, []int{0, 0}) || Covers(l, 1, []int{3, 0}) || Covers(l, 1, []int{0}) || Covers(nil, 0, nil) {
		t.Error("Covers is wrong")
	}
	p := grown(pair(), 1000)
	for n := range p.Nodes {
		path := Path(p, n)
		for i := n; i > 0; i = p.Nodes[i].Parent {
			if path[len(path)-1] != p.Nodes[i].Rule {
				t.Errorf("Path(%d) gives %v", n, Path(p, n))
			}
			path = path[:len(path)-1]
		}
		if len(path) != 0 {
			t.Errorf("Path(%d) gives %v", n, Path(p, n))
		}
	}
	for _, n := range []int{-1, len(p.Nodes), 1 << 40} {
		if len(Path(p, n)) != 0 {
			t.Errorf("Path(%d) gives %v", n, Path(p, n))
		}
	}
	loop := api.Grown{Nodes: []api.Node{{Parent: 1}, {Parent: 0}}}
	if len(Path(loop, 1)) > 2 {
		t.Error("Path of no tree is endless")
	}
}

// TestAgainstExploring checks the consequences for random models: all that is reached is below Limits, and what has no omega is reached.
func TestAgainstExploring(t *testing.T) {
	r := rand.New(rand.NewSource(13))
	done := 0
	for range 300 {
		m := api.Model{Kind: api.KindCounter, States: []string{"a", "b"}, Places: []string{"x", "y"}, Start: values.Counter(0, []int{r.Intn(3), r.Intn(3)})}
		for i := range 1 + r.Intn(3) {
			m.Rules = append(m.Rules, api.Rule{Name: "r" + string(rune('0'+i)), From: r.Intn(2), To: r.Intn(2), Need: []int{r.Intn(3), r.Intn(3)}, Give: []int{r.Intn(3), r.Intn(2)}})
		}
		tree := grown(m, 1000)
		if !Done(tree) {
			continue
		}
		done++
		l := Limits(tree)
		seen := []api.Value{m.Start}
		for i := 0; i < len(seen) && i < 200; i++ {
			if !Covers(l, seen[i].Kids[0].N, values.Numbers(seen[i].Kids[1:])) {
				t.Fatalf("%v: %v is above %v", m, seen[i], l)
			}
			for rule := range m.Rules {
				if c, e := counter.Apply(m, rule, seen[i]); e == api.OK && !slices.ContainsFunc(seen, func(v api.Value) bool { return values.Same(v, c) }) {
					seen = append(seen, c)
				}
			}
		}
		for n, node := range tree.Nodes {
			c, e := m.Start, api.OK
			for _, rule := range Path(tree, n) {
				if e == api.OK {
					c, e = counter.Apply(m, rule, c)
				}
			}
			if vector.Finite(node.Vector) && (e != api.OK || !values.Same(c, values.Counter(node.State, node.Vector))) {
				t.Fatalf("%v: the path to %v leads to %v, %d", m, node, c, e)
			}
		}
	}
	if done < 100 {
		t.Errorf("only %d trees were done", done)
	}
}

// TestSameFields checks P28.2: trees that differ in one field.
func TestSameFields(t *testing.T) {
	node := func(n api.Node) api.Grown { return api.Grown{Nodes: []api.Node{n}} }
	all := []api.Grown{{}, {Next: 1}, node(api.Node{}), node(api.Node{State: 1}), node(api.Node{Vector: []int{1}}), node(api.Node{Vector: []int{2}}), node(api.Node{Parent: 1}), node(api.Node{Rule: 1})}
	for i, a := range all {
		for j, b := range all {
			if Same(a, b) != (i == j) {
				t.Errorf("Same of %v and %v is wrong", a, b)
			}
		}
	}
}
