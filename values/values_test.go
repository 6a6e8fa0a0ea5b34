package values

import (
	"slices"
	"testing"

	"coverability/api"
)

// TestValues checks the helpers by hand.
func TestValues(t *testing.T) {
	c := Counter(1, []int{4, 2})
	if c.Kids[0].N != 1 || !slices.Equal(Numbers(c.Kids[1:]), []int{4, 2}) {
		t.Errorf("Counter gives %v", c)
	}
	l := []api.Value{{N: 3}, {N: 1}, {N: 3}}
	a := Ascending(l)
	if !SameLists(a, Leaves([]int{1, 3})) || !IsAscending(a) || IsAscending(l) || l[0].N != 3 {
		t.Errorf("Ascending gives %v", a)
	}
	if i, ok := Index(a, api.Value{N: 3}); i != 1 || !ok {
		t.Errorf("Index gives %d, %v", i, ok)
	}
	s := []api.Step{{Rule: 1, Config: c}}
	if !SameSteps(s, []api.Step{{Rule: 1, Config: Counter(1, []int{4, 2})}}) || SameSteps(s, []api.Step{{Rule: 2, Config: c}}) || SameSteps(s, nil) {
		t.Error("SameSteps is wrong")
	}
}

// TestTwice checks that a list with a value twice is not ascending.
func TestTwice(t *testing.T) {
	if IsAscending(Leaves([]int{1, 1})) || !IsAscending(nil) {
		t.Error("IsAscending is wrong")
	}
}
