package clone

import (
	"reflect"
	"testing"

	"coverability/api"
)

// TestCopiesAreEqualAndApart checks that a copy is equal, and that changing it leaves the original alone.
func TestCopiesAreEqualAndApart(t *testing.T) {
	v := api.Value{N: 1, Kids: []api.Value{{N: 2, Kids: []api.Value{{N: 3}}}}}
	steps := []api.Step{{Rule: 1, Config: v}}
	c := Steps(steps)
	if !reflect.DeepEqual(c, steps) {
		t.Fatalf("Steps gives %v", c)
	}
	c[0].Config.Kids[0].Kids[0].N = 9
	if v.Kids[0].Kids[0].N != 3 {
		t.Error("Steps shares memory with its argument")
	}
	l := [][]int{{1, 2}, {3}}
	d := Lists(l)
	d[0][0] = 9
	if l[0][0] != 1 || !reflect.DeepEqual(d[1], []int{3}) {
		t.Error("Lists shares memory with its argument")
	}
	if Ints([]int{}) != nil || Values(nil) != nil {
		t.Error("an empty list has no copy with memory")
	}
}
