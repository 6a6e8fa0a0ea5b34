package reach

import (
	"slices"

	"coverability/api"
	"coverability/invariant"
	"coverability/model"
	"coverability/run"
	"coverability/step"
	"coverability/values"
)

// Proves returns OK if steps are a run to the target.
func Proves(m api.Model, target api.Value, l []api.Step) api.Errno {
	last, _, e := run.Replay(m, l)
	if e != api.OK {
		return e
	}
	if !values.Same(last, target) {
		return api.ErrTarget
	}
	return api.OK
}

// Refutes returns OK if a verdict shows that the target is not reached.
func Refutes(m api.Model, target api.Value, v api.Verdict) api.Errno {
	if e := check(m, target); e != api.OK {
		return e
	}
	if !v.Decided || v.Yes {
		return api.ErrAnswer
	}
	if len(v.Closed) > 0 {
		return closed(m, target, v.Closed)
	}
	if e := invariant.Closed(m, v.Atom); e != api.OK {
		return e
	}
	if ok, _ := invariant.Holds(m, v.Atom, target); ok {
		return api.ErrTarget
	}
	return api.OK
}

// closed returns OK if configurations have the beginning among them, not the target, and no step out of them.
func closed(m api.Model, target api.Value, l []api.Value) api.Errno {
	has := func(c api.Value) bool {
		_, ok := values.Index(l, c)
		return ok
	}
	switch {
	case slices.ContainsFunc(l, func(c api.Value) bool { return !model.Valid(m, c) }):
		return api.ErrConfig
	case !values.IsAscending(l):
		return api.ErrOrder
	case !has(m.Start):
		return api.ErrBegin
	case has(target):
		return api.ErrTarget
	}
	for _, c := range l {
		steps, e := step.All(m, c)
		if e != api.OK {
			return e
		}
		if slices.ContainsFunc(steps, func(s api.Step) bool { return !has(s.Config) }) {
			return api.ErrOpen
		}
	}
	return api.OK
}
