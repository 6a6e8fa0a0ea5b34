package home

import (
	"fmt"
	"math/rand"
	"slices"
	"testing"

	"coverability/api"
	"coverability/order"
	"coverability/syntax"
	"coverability/values"
)

func parse(text string) api.Model {
	m, line, e := syntax.Parse(text)
	if e != api.OK {
		panic([]any{text, line, e})
	}
	return m
}

func val(s string) api.Value {
	v, e := order.Parse(s)
	if e != api.OK {
		panic(s)
	}
	return v
}

// graph makes a graph of numbers from lists of arcs, each a label and a number.
func graph(arcs ...[]api.Arc) api.Graph {
	g := api.Graph{Arcs: arcs}
	for n := range arcs {
		g.Configs = append(g.Configs, api.Value{N: n})
	}
	return g
}

func circle() api.Model {
	return parse("model counter\nstates a b c\nplaces x\nrule r a -> b\nrule s b -> c\nrule t c -> a\nstart 0(0 0)")
}

// TestBuild checks P35.1.
func TestBuild(t *testing.T) {
	g, e := Build(circle(), 3)
	if e != api.OK || fmt.Sprint(g) != "{[{0 [{0 []} {0 []}]} {0 [{1 []} {0 []}]} {0 [{2 []} {0 []}]}] [[{0 1}] [{1 2}] [{2 0}]]}" || Check(g) != api.OK {
		t.Errorf("Build gives %v, %d", g, e)
	}
	lossy := parse("model lossy\nstates a b\nplaces c\nletters l\nrule put a -> b send c l\nrule get b -> b receive c l\nstart 0(0 0)")
	g, e = Build(lossy, 128)
	if e != api.OK || fmt.Sprint(g.Arcs) != "[[{0 1}] [{-1 2} {1 2}] []]" || !values.SameLists(g.Configs, []api.Value{val("0(0 0)"), val("0(1 0(0))"), val("0(1 0)")}) {
		t.Errorf("Build gives %v, %d", g, e)
	}
	up := parse("model counter\nstates a\nplaces x\nrule r a -> a give x 1\nstart 0(0 0)")
	top := parse("model counter\nstates a\nplaces x\nrule r a -> a give x 1\nstart 0(0 1048575)")
	for _, x := range []struct {
		m    api.Model
		most int
		e    api.Errno
	}{{circle(), 2, api.ErrLimit}, {circle(), 0, api.ErrRange}, {circle(), 129, api.ErrRange}, {up, 128, api.ErrLimit}, {top, 128, api.ErrLimit}, {parse("model branching\nstates a\nplaces x"), 0, api.ErrKind}, {api.Model{Kind: 1}, 0, api.ErrLimit}} {
		if g, e := Build(x.m, x.most); e != x.e || g.Configs != nil || g.Arcs != nil {
			t.Errorf("Build gives %v, %d", g, e)
		}
	}
}

// TestInvalid checks P35.1 and P35.2 for graphs that are not valid, and numbers that are none.
func TestInvalid(t *testing.T) {
	good := graph([]api.Arc{{Label: 5, To: 0}})
	twice := api.Graph{Configs: make([]api.Value, 2), Arcs: make([][]api.Arc, 2)}
	for i, g := range []api.Graph{{}, twice, graph([]api.Arc{{To: 1}}), graph([]api.Arc{{To: -1}}), {Configs: make([]api.Value, 1)}, {Arcs: make([][]api.Arc, 1)}, graph(make([][]api.Arc, 129)...)} {
		_, ok := Way(g, 0, 0)
		if Check(g) != api.ErrGraph || Reach(g, 0) != nil || Homes(g) != nil || Dead(g) != nil || Live(g, 0) || Components(g) != nil || ok {
			t.Errorf("%d: a graph is accepted that is not valid", i)
		}
		if Same(g, good) || !Same(g, g) {
			t.Errorf("%d: Same is wrong", i)
		}
	}
	if Check(graph(make([][]api.Arc, 128)...)) != api.OK || Check(good) != api.OK {
		t.Error("a valid graph is not accepted")
	}
	for _, n := range []int{-1, 1} {
		_, ok := Way(good, n, 0)
		_, ok2 := Way(good, 0, n)
		if Reach(good, n) != nil || ok || ok2 {
			t.Errorf("%d is accepted", n)
		}
	}
}

// TestExamples checks P35.2 by hand.
func TestExamples(t *testing.T) {
	c, _ := Build(circle(), 9)
	if fmt.Sprint(Homes(c), Dead(c), Reach(c, 1), Components(c)) != "[0 1 2] [] [0 1 2] [[0 1 2]]" || !Live(c, 1) || Live(c, 3) {
		t.Errorf("the circle: %v, %v, %v, %v", Homes(c), Dead(c), Reach(c, 1), Components(c))
	}
	// 0 leads to 1 and 3, 1 and 2 to each other and to 3.
	g := graph([]api.Arc{{Label: 7, To: 1}, {Label: 1, To: 3}}, []api.Arc{{Label: 0, To: 2}}, []api.Arc{{Label: 2, To: 3}, {Label: 2, To: 1}}, nil)
	if fmt.Sprint(Homes(g), Dead(g), Reach(g, 1), Reach(g, 3), Components(g)) != "[3] [3] [1 2 3] [3] [[0] [1 2] [3]]" || Live(g, 2) {
		t.Errorf("the graph: %v, %v, %v, %v", Homes(g), Dead(g), Reach(g, 1), Components(g))
	}
	w := graph([]api.Arc{{Label: 4, To: 1}, {Label: 3, To: 2}, {Label: 3, To: 1}, {Label: 0, To: 0}}, []api.Arc{{Label: 9, To: 3}, {Label: -1, To: 0}}, []api.Arc{{Label: 1, To: 3}}, nil)
	if way, ok := Way(w, 0, 3); !ok || fmt.Sprint(way) != "[{3 1} {9 3}]" {
		t.Errorf("Way gives %v, %v", way, ok)
	}
	if way, ok := Way(w, 2, 2); !ok || len(way) != 0 {
		t.Errorf("Way gives %v, %v", way, ok)
	}
	if way, ok := Way(w, 3, 0); ok || way != nil {
		t.Errorf("Way gives %v, %v", way, ok)
	}
}

// TestAgainstClosure checks P35.2 for random graphs, against all pairs that reach each other.
func TestAgainstClosure(t *testing.T) {
	r := rand.New(rand.NewSource(19))
	for range 500 {
		n := 1 + r.Intn(7)
		arcs := make([][]api.Arc, n)
		far := make([][]int, n)
		for i := range arcs {
			far[i] = slices.Repeat([]int{99}, n)
			far[i][i] = 0
			for range r.Intn(3) {
				a := api.Arc{Label: r.Intn(3), To: r.Intn(n)}
				arcs[i] = append(arcs[i], a)
				far[i][a.To] = min(far[i][a.To], 1)
			}
		}
		for k := range n {
			for i := range n {
				for j := range n {
					far[i][j] = min(far[i][j], far[i][k]+far[k][j])
				}
			}
		}
		g := graph(arcs...)
		var homes []int
		for i := range n {
			var reach []int
			home := true
			for j := range n {
				if far[i][j] < 99 {
					reach = append(reach, j)
				}
				home = home && far[j][i] < 99
				way, ok := Way(g, i, j)
				if ok != (far[i][j] < 99) || ok && len(way) != far[i][j] {
					t.Fatalf("%v: Way(%d, %d) gives %v", arcs, i, j, way)
				}
				at := i
				for _, a := range way {
					if !slices.Contains(arcs[at], a) {
						t.Fatalf("%v: Way(%d, %d) gives %v", arcs, i, j, way)
					}
					at = a.To
				}
			}
			if home {
				homes = append(homes, i)
			}
			if fmt.Sprint(Reach(g, i)) != fmt.Sprint(reach) {
				t.Fatalf("%v: Reach(%d) gives %v", arcs, i, Reach(g, i))
			}
		}
		if fmt.Sprint(Homes(g)) != fmt.Sprint(homes) {
			t.Fatalf("%v: Homes gives %v", arcs, Homes(g))
		}
		components := Components(g)
		for label := range 3 {
			live := true
			for _, c := range components {
				leaves, has := false, false
				for _, i := range c {
					for _, a := range arcs[i] {
						leaves = leaves || !slices.Contains(c, a.To)
						has = has || a.Label == label
					}
				}
				live = live && (leaves || has)
			}
			if Live(g, label) != live {
				t.Fatalf("%v: Live(%d) is not %v", arcs, label, live)
			}
		}
		seen := 0
		for k, c := range components {
			seen += len(c)
			if k > 0 && components[k-1][0] >= c[0] || !slices.IsSorted(c) {
				t.Fatalf("%v: Components gives %v", arcs, components)
			}
			for _, i := range c {
				if far[c[0]][i] == 99 || far[i][c[0]] == 99 {
					t.Fatalf("%v: Components gives %v", arcs, components)
				}
			}
		}
		if seen != n {
			t.Fatalf("%v: Components gives %v", arcs, components)
		}
	}
}

// TestLeast checks P35.1: a graph of one configuration.
func TestLeast(t *testing.T) {
	m := parse("model counter\nstates a\nplaces x\nrule r a -> a\nstart 0(0 0)")
	if g, e := Build(m, 1); e != api.OK || fmt.Sprint(g.Arcs) != "[[{0 0}]]" {
		t.Errorf("Build gives %v, %d", g, e)
	}
}
