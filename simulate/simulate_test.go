package simulate

import (
	"fmt"
	"math/rand"
	"slices"
	"testing"

	"coverability/api"
)

func system(arcs ...[]api.Arc) api.System { return api.System{Arcs: arcs} }

func arcs(l ...int) []api.Arc {
	var out []api.Arc
	for i := 0; i < len(l); i += 2 {
		out = append(out, api.Arc{Label: l[i], To: l[i+1]})
	}
	return out
}

// early chooses between 1 and 2 with its first step, late with the second one.
func early() api.System { return system(arcs(0, 1, 0, 2), arcs(1, 3), arcs(2, 3), nil) }
func late() api.System  { return system(arcs(0, 1), arcs(1, 2, 2, 2), nil) }

// TestCheck checks P36.1 and the errors of all functions.
func TestCheck(t *testing.T) {
	for i, x := range []struct {
		s api.System
		e api.Errno
	}{
		{system(), api.ErrSystem}, {system(nil), api.OK}, {system(arcs(5, 1)), api.ErrSystem}, {system(arcs(5, -1)), api.ErrSystem}, {system(make([][]api.Arc, 128)...), api.OK}, {system(make([][]api.Arc, 129)...), api.ErrSystem},
		{system(slices.Repeat(arcs(-7, 0), 256)), api.OK}, {system(slices.Repeat(arcs(0, 0), 257)), api.ErrSystem}, {system(slices.Repeat(arcs(0, 0), 200), slices.Repeat(arcs(0, 0), 57)), api.ErrSystem},
	} {
		for _, other := range []api.System{late(), x.s} {
			_, e1 := Greatest(x.s, other)
			_, e2 := Simulates(other, x.s)
			e3 := Holds(x.s, other, nil)
			_, _, e4 := Trace(other, x.s, 99)
			if x.e != api.OK && (e1 != x.e || e2 != x.e || e3 != x.e || e4 != x.e || Accepts(x.s, nil)) {
				t.Errorf("%d: errors %d, %d, %d, %d", i, e1, e2, e3, e4)
			}
			if x.e == api.OK && (e3 != api.ErrSystem || e4 != api.ErrRange || !Accepts(x.s, nil)) {
				t.Errorf("%d: errors %d, %d", i, e3, e4)
			}
		}
		if e := Check(x.s); e != x.e {
			t.Errorf("%d: Check gives %d", i, e)
		}
		g := api.Graph{Arcs: x.s.Arcs}
		for n := range x.s.Arcs {
			g.Configs = append(g.Configs, api.Value{N: n})
		}
		s, e := Of(g)
		if (e == api.OK) != (x.e == api.OK) || e == api.OK && fmt.Sprint(s) != fmt.Sprint(x.s) || e != api.OK && s.Arcs != nil {
			t.Errorf("%d: Of gives %v, %d", i, s, e)
		}
	}
	if _, e := Of(api.Graph{}); e != api.ErrGraph {
		t.Errorf("Of gives %d", e)
	}
	if _, e := Of(api.Graph{Configs: make([]api.Value, 1), Arcs: [][]api.Arc{slices.Repeat(arcs(0, 0), 257)}}); e != api.ErrSystem {
		t.Errorf("Of gives %d", e)
	}
	if _, _, e := Trace(late(), late(), -1); e != api.ErrRange {
		t.Errorf("Trace gives %d", e)
	}
}

// TestExamples checks P36.1 to P36.3 by hand.
func TestExamples(t *testing.T) {
	r, e := Greatest(early(), late())
	if e != api.OK || fmt.Sprint(r) != "[[true false false] [false true false] [false true false] [true true true]]" {
		t.Errorf("Greatest gives %v, %d", r, e)
	}
	if ok, e := Simulates(early(), late()); e != api.OK || !ok {
		t.Errorf("Simulates gives %v, %d", ok, e)
	}
	if ok, e := Simulates(late(), early()); e != api.OK || ok {
		t.Errorf("Simulates gives %v, %d", ok, e)
	}
	if w, ok, e := Trace(late(), early(), 16); e != api.OK || ok || w != nil {
		t.Errorf("Trace gives %v, %v, %d", w, ok, e)
	}
	row := func(l ...bool) []bool { return l }
	a, b := system(arcs(0, 1), nil), system(arcs(0, 0))
	for _, x := range []struct {
		r [][]bool
		e api.Errno
	}{{[][]bool{row(true), row(true)}, api.OK}, {[][]bool{row(true), row(false)}, api.ErrOpen}, {[][]bool{row(false), row(true)}, api.ErrBegin}, {[][]bool{row(true)}, api.ErrSystem}, {[][]bool{row(true), row(true, true)}, api.ErrSystem}} {
		if e := Holds(a, b, x.r); e != x.e {
			t.Errorf("Holds(%v) gives %d", x.r, e)
		}
	}
	for _, x := range []struct {
		a, b api.System
		most int
		w    []int
		ok   bool
	}{
		{system(arcs(5, 0, 3, 0)), system(arcs(4, 0)), 4, []int{3}, true}, {system(arcs(5, 0, 3, 0)), system(arcs(4, 0)), 0, nil, false}, {system(arcs(1, 0)), system(arcs(1, 1), arcs(1, 2), nil), 3, []int{1, 1, 1}, true}, {system(arcs(1, 0)), system(arcs(1, 1), arcs(1, 2), nil), 2, nil, false},
		{system(arcs(2, 1, 1, 1), arcs(1, 0)), system(arcs(1, 1, 2, 2), nil, arcs(7, 0)), 9, []int{1, 1}, true},
	} {
		if w, ok, e := Trace(x.a, x.b, x.most); e != api.OK || ok != x.ok || !slices.Equal(w, x.w) {
			t.Errorf("Trace gives %v, %v, %d", w, ok, e)
		}
	}
	if !Accepts(early(), []int{0, 2}) || Accepts(early(), []int{0, 0}) || !Accepts(early(), nil) {
		t.Error("Accepts is wrong")
	}
}

// counter is a system of n states whose sets of states count: it has about 2^n pairs.
func counter(n int) api.System {
	s := system(arcs(0, 0, 1, 0, 1, 1))
	for i := 1; i < n; i++ {
		s.Arcs = append(s.Arcs, arcs(0, (i+1)%n, 1, (i+1)%n))
	}
	s.Arcs[n-1] = nil
	return s
}

// TestLimit checks P36.3: too many pairs.
func TestLimit(t *testing.T) {
	all := system(arcs(0, 0, 1, 0))
	if w, ok, e := Trace(counter(12), all, 16); e != api.OK || ok {
		t.Errorf("Trace gives %v, %v, %d", w, ok, e)
	}
	if w, ok, e := Trace(counter(15), all, 16); e != api.ErrLimit || ok || w != nil {
		t.Errorf("Trace of too many pairs gives %v, %v, %d", w, ok, e)
	}
}

// TestAgainstWords checks P36.2, P36.3 and the consequences for random systems.
func TestAgainstWords(t *testing.T) {
	r := rand.New(rand.NewSource(20))
	random := func() api.System {
		var s api.System
		n := 1 + r.Intn(3)
		for range n {
			var l []api.Arc
			for range r.Intn(4) {
				l = append(l, api.Arc{Label: r.Intn(2), To: r.Intn(n)})
			}
			s.Arcs = append(s.Arcs, l)
		}
		return s
	}
	words := [][]int{nil}
	for i := 0; i < len(words); i++ {
		for label := range 2 {
			if len(words[i]) < 6 {
				words = append(words, slices.Concat(words[i], []int{label}))
			}
		}
	}
	for range 1000 {
		a, b := random(), random()
		var want []int
		found := false
		for _, w := range words {
			if !found && Accepts(a, w) && !Accepts(b, w) {
				want, found = w, true
			}
		}
		w, ok, e := Trace(a, b, 6)
		if e != api.OK || ok != found || !slices.Equal(w, want) {
			t.Fatalf("Trace(%v, %v) gives %v, %v, %d and not %v", a, b, w, ok, e, want)
		}
		rel, _ := Greatest(a, b)
		sim, _ := Simulates(a, b)
		if sim && found || sim != rel[0][0] || sim != (Holds(a, b, rel) == api.OK) || !sim && Holds(a, b, rel) != api.ErrBegin {
			t.Fatalf("%v, %v: %v simulates, but %v is a trace", a, b, rel, want)
		}
		// Every other simulation is within the greatest one.
		for range 10 {
			other := make([][]bool, len(a.Arcs))
			within := true
			for x := range other {
				for y := range b.Arcs {
					other[x] = append(other[x], r.Intn(2) == 0)
					within = within && (!other[x][y] || rel[x][y])
				}
			}
			if e := Holds(a, b, other); e != api.ErrOpen && !within {
				t.Fatalf("%v, %v: %v is a simulation outside of %v", a, b, other, rel)
			}
		}
	}
}

// TestMost checks P36.3: just as many pairs as may be met. A word of length n leads to its last bits, of which there are 2^12 behind 12 letters or more.
func TestMost(t *testing.T) {
	bits := system(arcs(0, 0, 1, 0, 1, 1))
	for i := 1; i <= 12; i++ {
		bits.Arcs = append(bits.Arcs, arcs(0, i+1, 1, i+1))
	}
	bits.Arcs[12] = nil
	all := system(arcs(0, 0, 1, 0))
	if w, ok, e := Trace(bits, all, 16); e != api.OK || ok {
		t.Errorf("Trace gives %v, %v, %d", w, ok, e)
	}
	// A word with another letter leads to one more pair.
	bits.Arcs[0] = append(bits.Arcs[0], api.Arc{Label: 2, To: 12})
	all.Arcs[0] = append(all.Arcs[0], api.Arc{Label: 2, To: 0})
	if w, ok, e := Trace(bits, all, 16); e != api.ErrLimit || ok || w != nil {
		t.Errorf("Trace gives %v, %v, %d", w, ok, e)
	}
	// The word that is the answer is found, also when no other pair may be met.
	bits.Arcs[0] = append(bits.Arcs[0][:3:3], api.Arc{Label: 3, To: 0})
	if w, ok, e := Trace(bits, all, 16); e != api.OK || !ok || !slices.Equal(w, []int{3}) {
		t.Errorf("Trace gives %v, %v, %d", w, ok, e)
	}
}
