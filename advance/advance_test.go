package advance

import (
	"testing"

	"coverability/api"
	"coverability/order"
	"coverability/syntax"
	"coverability/values"
)

// TestLeavesOut checks that values are left out as if they were not there, and that a search is copied.
func TestLeavesOut(t *testing.T) {
	m, _, e := syntax.Parse("model counter\nstates a\nplaces x y\nrule r a -> a need x 1 give y 1\nrule s a -> a need y 2 give x 1\nstart 0(0 0 0)")
	target, _ := order.Parse("0(0 0 2)")
	s, e2 := Start(m, []api.Value{target})
	if e != api.OK || e2 != api.OK || len(s.Front) != 1 || s.Origins[0].Rule != -2 {
		t.Fatalf("Start gives %v, %d, %d", s, e, e2)
	}
	all, n, e := Run(m, s, 100, func(v api.Value) bool { return true })
	if e != api.OK || n != all.Used || len(all.Front) != 0 || len(all.Origins) < 3 {
		t.Errorf("Run gives %v, %d, %d", all, n, e)
	}
	some, _, _ := Run(m, s, 100, func(v api.Value) bool { return v.Kids[1].N < 2 })
	for _, v := range some.Basis {
		if v.Kids[1].N >= 2 {
			t.Errorf("%v is not left out", v)
		}
	}
	if len(some.Origins) >= len(all.Origins) {
		t.Error("nothing is left out")
	}
	c := Copy(s)
	c.Basis[0].Kids[0].N = 7
	if !values.Same(s.Basis[0], target) || values.Same(c.Basis[0], target) {
		t.Error("Copy shares memory")
	}
}
