package predecessor

import (
	"slices"

	"coverability/api"
	"coverability/nodes"
)

// beforePath returns predecessors by a rule of a nested model, the minimal ones among them.
func beforePath(m api.Model, r api.Rule, target api.Value) []api.Value {
	var out []api.Value
	for _, kids := range (levels{nodes.Levels{Last: m.Levels}}).before(target.Kids[1].Kids, 1, r.Path, r.Next) {
		out = append(out, api.Value{Kids: []api.Value{{N: r.From}, {Kids: kids}}})
	}
	return out
}

// levels are the nodes of a model.
type levels struct{ nodes.Levels }

// before returns nodes of a level that can become greater than some nodes when a path in them is changed; the least such ones are among them.
func (l levels) before(wanted []api.Value, level int, path, next []int) [][]api.Value {
	switch {
	case len(path) == 0 && len(next) == 0:
		return [][]api.Value{wanted}
	case len(path) == 0:
		return append(l.withoutNew(wanted, level, next), wanted)
	}
	// The node that is changed, or removed, need not be one of those that are wanted.
	out := [][]api.Value{slices.Concat(wanted, l.Chain(path, level))}
	if len(next) == 0 {
		return out
	}
	for i, node := range wanted {
		if l.Label(node, level) != next[0] {
			continue
		}
		for _, children := range l.before(l.Children(node, level), level+1, path[1:], next[1:]) {
			changed := l.Node(path[0], children, level)
			out = append(out, slices.Concat(wanted[:i], wanted[i+1:], []api.Value{changed}))
		}
	}
	return out
}

// withoutNew returns nodes without one that the new nodes, a chain of labels, are above.
func (l levels) withoutNew(wanted []api.Value, level int, labels []int) [][]api.Value {
	var out [][]api.Value
	for i, node := range wanted {
		if l.within(node, level, labels) {
			out = append(out, slices.Concat(wanted[:i], wanted[i+1:]))
		}
	}
	return out
}

// within reports whether a node is below the chain of labels.
func (l levels) within(node api.Value, level int, labels []int) bool {
	children := l.Children(node, level)
	if l.Label(node, level) != labels[0] || len(children) > 1 {
		return false
	}
	return len(children) == 0 || len(labels) > 1 && l.within(children[0], level+1, labels[1:])
}
