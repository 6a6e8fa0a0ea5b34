package predecessor

import (
	"slices"

	"coverability/api"
	"coverability/values"
)

// aged is a token: its place and its age.
type aged [2]int

func tokens(c api.Value) []aged {
	var out []aged
	for _, t := range c.Kids[1].Kids {
		out = append(out, aged{t.Kids[0].N, t.Kids[1].N})
	}
	return out
}

func config(state int, l []aged) api.Value {
	var bag api.Value
	for _, t := range l {
		bag.Kids = append(bag.Kids, api.Value{Kids: values.Leaves(t[:])})
	}
	return api.Value{Kids: []api.Value{{N: state}, bag}}
}

// beforeTick returns the minimal predecessors by a tick: a token without an age is never there behind it, and the oldest ones can have been as old before.
func beforeTick(m api.Model, target api.Value) []api.Value {
	fronts := [][]aged{nil}
	l := tokens(target)
	for i, t := range l {
		if t[1] == 0 {
			return nil
		}
		oldest := t[1] - 1
		if t[1] == m.Age+1 {
			oldest = t[1]
		}
		var longer [][]aged
		for _, f := range fronts {
			youngest := t[1] - 1
			// Equal tokens, which follow each other, are told apart by nothing: one order of their ages is enough.
			if i > 0 && l[i-1] == t {
				youngest = f[i-1][1]
			}
			for age := youngest; age <= oldest; age++ {
				longer = append(longer, slices.Concat(f, []aged{{t[0], age}}))
			}
		}
		fronts = longer
	}
	var out []api.Value
	for _, f := range fronts {
		out = append(out, config(target.Kids[0].N, f))
	}
	return out
}

// beforeTakes returns the minimal predecessors by a rule: what it makes was not there before, what it takes was.
func beforeTakes(r api.Rule, target api.Value) []api.Value {
	rest := tokens(target)
	for _, place := range r.Makes {
		made := func(t aged) bool { return t == aged{place, 0} }
		if i := slices.IndexFunc(rest, made); i >= 0 {
			rest = slices.Delete(rest, i, i+1)
		}
	}
	fronts := [][]aged{rest}
	for _, t := range r.Takes {
		var longer [][]aged
		for _, f := range fronts {
			for age := t.Low; age <= t.High; age++ {
				longer = append(longer, slices.Concat(f, []aged{{t.Place, age}}))
			}
		}
		fronts = longer
	}
	var out []api.Value
	for _, f := range fronts {
		out = append(out, config(r.From, f))
	}
	return out
}
