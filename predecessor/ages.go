package predecessor

import (
	"slices"

	"coverability/aged"
	"coverability/api"
)

// beforeTick returns the minimal predecessors by a tick: a token without an age is never there behind it, and the oldest ones can have been as old before.
func beforeTick(m api.Model, target api.Value) []api.Value {
	fronts := [][][2]int{nil}
	l := aged.Tokens(target)
	for i, t := range l {
		if t[1] == 0 {
			return nil
		}
		oldest := t[1] - 1
		if t[1] == m.Age+1 {
			oldest = t[1]
		}
		var longer [][][2]int
		for _, f := range fronts {
			youngest := t[1] - 1
			// Equal tokens, which follow each other, are told apart by nothing: one order of their ages is enough.
			if i > 0 && l[i-1] == t {
				youngest = f[i-1][1]
			}
			for age := youngest; age <= oldest; age++ {
				longer = append(longer, slices.Concat(f, [][2]int{{t[0], age}}))
			}
		}
		fronts = longer
	}
	var out []api.Value
	for _, f := range fronts {
		out = append(out, aged.Config(target.Kids[0].N, f))
	}
	return out
}

// beforeTakes returns the minimal predecessors by a rule: what it makes was not there before, what it takes was.
func beforeTakes(r api.Rule, target api.Value) []api.Value {
	rest := aged.Tokens(target)
	for _, place := range r.Makes {
		made := func(t [2]int) bool { return t == [2]int{place, 0} }
		if i := slices.IndexFunc(rest, made); i >= 0 {
			rest = slices.Delete(rest, i, i+1)
		}
	}
	fronts := [][][2]int{rest}
	for _, t := range r.Takes {
		var longer [][][2]int
		for _, f := range fronts {
			for age := t.Low; age <= t.High; age++ {
				longer = append(longer, slices.Concat(f, [][2]int{{t.Place, age}}))
			}
		}
		fronts = longer
	}
	var out []api.Value
	for _, f := range fronts {
		out = append(out, aged.Config(r.From, f))
	}
	return out
}
