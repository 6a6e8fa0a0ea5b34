package predecessor

import (
	"slices"

	"coverability/api"
)

// beforePath returns predecessors by a rule of a nested model, the minimal ones among them.
func beforePath(m api.Model, r api.Rule, target api.Value) []api.Value {
	var out []api.Value
	for _, nodes := range (levels{m.Levels}).before(target.Kids[1].Kids, 1, r.Path, r.Next) {
		out = append(out, api.Value{Kids: []api.Value{{N: r.From}, {Kids: nodes}}})
	}
	return out
}

// levels knows how deep nodes are: those of the last level are labels alone.
type levels struct{ last int }

func (l levels) node(label int, children []api.Value, level int) api.Value {
	if level == l.last {
		return api.Value{N: label}
	}
	return api.Value{Kids: []api.Value{{N: label}, {Kids: children}}}
}

func (l levels) label(node api.Value, level int) int {
	if level == l.last {
		return node.N
	}
	return node.Kids[0].N
}

func (l levels) children(node api.Value, level int) []api.Value {
	if level == l.last {
		return nil
	}
	return node.Kids[1].Kids
}

// chain returns the least nodes that have a path with labels.
func (l levels) chain(labels []int, level int) []api.Value {
	if len(labels) == 0 {
		return nil
	}
	return []api.Value{l.node(labels[0], l.chain(labels[1:], level+1), level)}
}

// before returns nodes of a level that can become greater than some nodes when a path in them is changed; the least such ones are among them.
func (l levels) before(nodes []api.Value, level int, path, next []int) [][]api.Value {
	switch {
	case len(path) == 0 && len(next) == 0:
		return [][]api.Value{nodes}
	case len(path) == 0:
		return append(l.withoutNew(nodes, level, next), nodes)
	}
	// The node that is changed, or removed, need not be one of those that are wanted.
	out := [][]api.Value{slices.Concat(nodes, l.chain(path, level))}
	if len(next) == 0 {
		return out
	}
	for i, node := range nodes {
		if l.label(node, level) != next[0] {
			continue
		}
		for _, children := range l.before(l.children(node, level), level+1, path[1:], next[1:]) {
			changed := l.node(path[0], children, level)
			out = append(out, slices.Concat(nodes[:i], nodes[i+1:], []api.Value{changed}))
		}
	}
	return out
}

// withoutNew returns nodes without one that the new nodes, a chain of labels, are above.
func (l levels) withoutNew(nodes []api.Value, level int, labels []int) [][]api.Value {
	var out [][]api.Value
	for i, node := range nodes {
		if l.within(node, level, labels) {
			out = append(out, slices.Concat(nodes[:i], nodes[i+1:]))
		}
	}
	return out
}

// within reports whether a node is below the chain of labels.
func (l levels) within(node api.Value, level int, labels []int) bool {
	children := l.children(node, level)
	if l.label(node, level) != labels[0] || len(children) > 1 {
		return false
	}
	return len(children) == 0 || len(labels) > 1 && l.within(children[0], level+1, labels[1:])
}
