// Package values has small helpers for values and configurations that several layers need.
package values

import (
	"slices"

	"coverability/api"
	"coverability/clone"
	"coverability/order"
)

// Numbers returns the N of each value.
func Numbers(l []api.Value) []int {
	out := make([]int, len(l))
	for i, v := range l {
		out[i] = v.N
	}
	return out
}

// Leaves returns a value without Kids for each number.
func Leaves(l []int) []api.Value {
	out := make([]api.Value, len(l))
	for i, n := range l {
		out[i] = api.Value{N: n}
	}
	return out
}

// Counter returns the configuration with a state and numbers.
func Counter(state int, numbers []int) api.Value {
	return api.Value{Kids: append([]api.Value{{N: state}}, Leaves(numbers)...)}
}

// Same reports whether two values are equal.
func Same(a, b api.Value) bool { return order.Compare(a, b) == 0 }

// SameLists reports whether two lists of values are equal.
func SameLists(a, b []api.Value) bool { return slices.EqualFunc(a, b, Same) }

// SameSteps reports whether two lists of steps are equal.
func SameSteps(a, b []api.Step) bool {
	return slices.EqualFunc(a, b, func(s, t api.Step) bool { return s.Rule == t.Rule && Same(s.Config, t.Config) })
}

// Ascending copies a list of values, sorted, each once.
func Ascending(l []api.Value) []api.Value {
	l = slices.Clone(l)
	slices.SortFunc(l, order.Compare)
	return clone.Values(slices.CompactFunc(l, Same))
}

// Index returns the index of a value in an ascending list, and whether it is there.
func Index(l []api.Value, v api.Value) (int, bool) {
	return slices.BinarySearchFunc(l, v, order.Compare)
}

// IsAscending reports whether each value of a list is less than the next one.
func IsAscending(l []api.Value) bool {
	for i := 1; i < len(l); i++ {
		if order.Compare(l[i-1], l[i]) >= 0 {
			return false
		}
	}
	return true
}
