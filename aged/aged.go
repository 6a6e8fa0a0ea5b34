// Package aged reads and makes the tokens of timed models.
package aged

import (
	"coverability/api"
	"coverability/values"
)

// Tokens returns place and age of each token of a configuration, in its order.
func Tokens(c api.Value) [][2]int {
	out := make([][2]int, len(c.Kids[1].Kids))
	for i, t := range c.Kids[1].Kids {
		out[i] = [2]int{t.Kids[0].N, t.Kids[1].N}
	}
	return out
}

// Config returns the configuration with a state and tokens in any order; it is still to be sorted.
func Config(state int, tokens [][2]int) api.Value {
	var bag api.Value
	for _, t := range tokens {
		bag.Kids = append(bag.Kids, api.Value{Kids: values.Leaves(t[:])})
	}
	return api.Value{Kids: []api.Value{{N: state}, bag}}
}
