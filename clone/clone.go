// Package clone copies what results must not share with arguments.
package clone

import "coverability/api"

// Each copies the elements of a list with one.
func Each[T any](l []T, one func(T) T) []T {
	if len(l) == 0 {
		return nil
	}
	out := make([]T, len(l))
	for i, x := range l {
		out[i] = one(x)
	}
	return out
}

// Ints copies a list of numbers.
func Ints(l []int) []int {
	if len(l) == 0 {
		return nil
	}
	out := make([]int, len(l))
	copy(out, l)
	return out
}

// Lists copies a list of lists of numbers.
func Lists(l [][]int) [][]int { return Each(l, Ints) }

// Value copies a value.
func Value(v api.Value) api.Value { return api.Value{N: v.N, Kids: Values(v.Kids)} }

// Values copies a list of values.
func Values(l []api.Value) []api.Value { return Each(l, Value) }

// Step copies a step.
func Step(s api.Step) api.Step { return api.Step{Rule: s.Rule, Config: Value(s.Config)} }

// Steps copies a list of steps.
func Steps(l []api.Step) []api.Step { return Each(l, Step) }
