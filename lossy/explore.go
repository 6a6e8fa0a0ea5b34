package lossy

import (
	"slices"

	"coverability/api"
	"coverability/kinds"
)

// Explore looks at clouds, from the beginning on, until there are no new ones, or the budget is used.
func Explore(m api.Model, budget int) ([]api.Cloud, bool, api.Errno) {
	begin, e := Begin(m)
	if e != api.OK {
		return nil, false, e
	}
	begin, e = Loop(m, begin)
	if e != api.OK {
		return nil, false, e
	}
	l := []api.Cloud{begin}
	looked := 0
	for ; looked < budget && looked < len(l); looked++ {
		if l, e = explored(m, l, l[looked]); e != api.OK {
			return nil, false, e
		}
	}
	return maximal(m, l), looked == len(l), api.OK
}

// explored adds what is behind a cloud to a list.
func explored(m api.Model, l []api.Cloud, c api.Cloud) ([]api.Cloud, api.Errno) {
	for rule := range m.Rules {
		next, ok, e := Post(m, rule, c)
		if e != api.OK {
			return nil, e
		}
		if !ok {
			continue
		}
		if next, e = Loop(m, next); e != api.OK {
			return nil, e
		}
		if slices.ContainsFunc(l, func(k api.Cloud) bool { return within(m, next, k) }) {
			continue
		}
		if len(l) >= api.MaxClouds {
			return nil, api.ErrLimit
		}
		l = append(l, next)
	}
	return l, api.OK
}

// Holds returns OK if clouds contain all configurations that are reached.
func Holds(m api.Model, l []api.Cloud) api.Errno {
	if e := kinds.Of(m, api.KindLossy); e != api.OK {
		return e
	}
	if len(l) > api.MaxClouds {
		return api.ErrLimit
	}
	if e := checkAll(m, l); e != api.OK {
		return e
	}
	inside := func(c api.Cloud) bool {
		return slices.ContainsFunc(l, func(k api.Cloud) bool { return within(m, c, k) })
	}
	if begin, _ := Begin(m); !inside(begin) {
		return api.ErrBegin
	}
	for _, c := range l {
		for rule := range m.Rules {
			next, ok, e := Post(m, rule, c)
			if e != api.OK {
				return e
			}
			if ok && !inside(next) {
				return api.ErrOpen
			}
		}
	}
	return api.OK
}
