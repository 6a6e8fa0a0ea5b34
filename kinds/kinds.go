// Package kinds has the checks of models with which functions of several layers begin.
package kinds

import (
	"slices"

	"coverability/api"
	"coverability/model"
)

// Of returns the error of model.Check, or api.ErrKind for a model of none of some kinds.
func Of(m api.Model, kinds ...int) api.Errno {
	if e := model.Check(m); e != api.OK {
		return e
	}
	if !slices.Contains(kinds, m.Kind) {
		return api.ErrKind
	}
	return api.OK
}

// WithSteps returns the error of model.Check, or api.ErrKind for a branching model.
func WithSteps(m api.Model) api.Errno {
	return Of(m, api.KindCounter, api.KindLossy, api.KindPriority, api.KindNested, api.KindTimed)
}

// Plain returns the error of model.Check, or api.ErrKind for a model that is no counter model, or has a rule with a Move.
func Plain(m api.Model) api.Errno {
	if e := Of(m, api.KindCounter); e != api.OK {
		return e
	}
	if slices.ContainsFunc(m.Rules, func(r api.Rule) bool { return len(r.Move) > 0 }) {
		return api.ErrKind
	}
	return api.OK
}
