// Package nodes reads and makes the nodes of nested counters.
package nodes

import "coverability/api"

// Levels knows how deep nodes are: those of the level Last are labels alone, the others have a label and children of the next level.
type Levels struct{ Last int }

// Label returns the label of a node of a level.
func (l Levels) Label(node api.Value, level int) int {
	if level == l.Last {
		return node.N
	}
	return node.Kids[0].N
}

// Children returns the children of a node of a level.
func (l Levels) Children(node api.Value, level int) []api.Value {
	if level == l.Last {
		return nil
	}
	return node.Kids[1].Kids
}

// Node returns a node of a level.
func (l Levels) Node(label int, children []api.Value, level int) api.Value {
	if level == l.Last {
		return api.Value{N: label}
	}
	return api.Value{Kids: []api.Value{{N: label}, {Kids: children}}}
}

// Chain returns a node with the first label that has a child with the second one, and so on; no node for no labels.
func (l Levels) Chain(labels []int, level int) []api.Value {
	if len(labels) == 0 {
		return nil
	}
	return []api.Value{l.Node(labels[0], l.Chain(labels[1:], level+1), level)}
}
