// Package advance does steps of backward searches: of those that keep all values, and of those that leave some out.
package advance

import (
	"slices"

	"coverability/api"
	"coverability/basis"
	"coverability/clone"
	"coverability/model"
	"coverability/order"
	"coverability/predecessor"
	"coverability/values"
)

// Start returns the search for targets in which nothing was looked at.
func Start(m api.Model, targets []api.Value) (api.Search, api.Errno) {
	t, e := model.Type(m)
	if e != api.OK {
		return api.Search{}, e
	}
	b, e := basis.Minimise(t, targets)
	if e != api.OK {
		return api.Search{}, e
	}
	s := api.Search{Basis: b, Front: clone.Values(b)}
	for _, v := range b {
		s.Origins = append(s.Origins, api.Origin{Value: clone.Value(v), Rule: -2})
	}
	return s, api.OK
}

// Run does up to budget steps of a search of a model that has steps. Found values are left out unless keep says otherwise. It returns how many steps were done; an error ends it before the step that has it.
func Run(m api.Model, s api.Search, budget int, keep func(v api.Value) bool) (api.Search, int, api.Errno) {
	s = Copy(s)
	t, _ := model.Type(m)
	n := 0
	for n < budget && len(s.Front) > 0 {
		// The next search has longer lists than this one, but changes nothing within their lengths: so this one stays as it is.
		next, e := step(m, t, s, keep)
		if e != api.OK {
			return s, n, e
		}
		s = next
		n++
	}
	return s, n, api.OK
}

// Copy copies a search.
func Copy(s api.Search) api.Search {
	origin := func(o api.Origin) api.Origin {
		return api.Origin{Value: clone.Value(o.Value), Rule: o.Rule, Next: clone.Value(o.Next)}
	}
	return api.Search{Basis: clone.Values(s.Basis), Origins: clone.Each(s.Origins, origin), Front: clone.Values(s.Front), Used: s.Used}
}

func step(m api.Model, t api.Type, s api.Search, keep func(v api.Value) bool) (api.Search, api.Errno) {
	x := s.Front[0]
	s.Front = s.Front[1:]
	s.Used++
	if !slices.ContainsFunc(s.Basis, func(v api.Value) bool { return values.Same(v, x) }) {
		return s, api.OK
	}
	for rule := -1; rule < len(m.Rules); rule++ {
		found, e := predecessor.One(m, rule, x)
		if e != api.OK {
			return s, e
		}
		for _, y := range found {
			if Above(t, s.Basis, y) || !keep(y) {
				continue
			}
			b, _, e := basis.Insert(t, s.Basis, y)
			if e != api.OK {
				return s, e
			}
			if len(s.Origins) >= api.MaxOrigins {
				return s, api.ErrLimit
			}
			s.Basis = b
			s.Origins = append(s.Origins, api.Origin{Value: clone.Value(y), Rule: rule, Next: clone.Value(x)})
			s.Front = append(s.Front, y)
		}
	}
	return s, api.OK
}

// Above reports whether a value is in the set of a basis, which is not checked again.
func Above(t api.Type, b []api.Value, v api.Value) bool {
	return slices.ContainsFunc(b, func(x api.Value) bool { return order.Leq(t, x, v) })
}
