package order

import (
	"coverability/api"
	"coverability/multiset"
	"coverability/priority"
	"coverability/tree"
	"coverability/word"
)

// below compares two values of a valid type. They have a bounded size, but perhaps another form: then it does not matter what is said of them.
func below(t api.Type, a, b api.Value) bool {
	switch t.Kind {
	case api.TypeNat:
		return a.N <= b.N
	case api.TypeLabel:
		return a.N == b.N
	case api.TypeProduct:
		if len(a.Kids) != len(t.Parts) || len(b.Kids) != len(t.Parts) {
			return false
		}
		for i, p := range t.Parts {
			if !below(p, a.Kids[i], b.Kids[i]) {
				return false
			}
		}
		return true
	case api.TypeWord:
		return embedded(t.Parts[0], a.Kids, b.Kids)
	case api.TypeBag:
		return dominated(t.Parts[0], a.Kids, b.Kids)
	case api.TypeTree:
		return tree.Leq(asTree(a), asTree(b))
	}
	return priority.Leq(t.Ranks, letters(a), letters(b))
}

// embedded reports whether the first list goes, in order, below elements of the second one. The first place that fits is as good as any later one.
func embedded(t api.Type, a, b []api.Value) bool {
	if t.Kind == api.TypeLabel {
		return word.Leq(letters(api.Value{Kids: a}), letters(api.Value{Kids: b}))
	}
	next := 0
	for _, x := range b {
		if next < len(a) && below(t, a[next], x) {
			next++
		}
	}
	return next == len(a)
}

// dominated reports whether the first list can be matched with greater elements of the second one.
func dominated(t api.Type, a, b []api.Value) bool {
	if len(a) > len(b) {
		return false
	}
	if exact(t) {
		return contained(a, b)
	}
	table := make([][]bool, len(a))
	for i, x := range a {
		table[i] = make([]bool, len(b))
		for j, y := range b {
			table[i][j] = below(t, x, y)
		}
	}
	n, _ := multiset.Most(table)
	return n == len(a)
}

// exact reports whether values of a type are below equal ones alone: their multisets need no matching.
func exact(t api.Type) bool {
	for _, p := range t.Parts {
		if t.Kind != api.TypeProduct || !exact(p) {
			return false
		}
	}
	return t.Kind == api.TypeLabel || t.Kind == api.TypeProduct
}

// contained reports whether a sorted list is a part of another one.
func contained(a, b []api.Value) bool {
	next := 0
	for _, y := range b {
		if next < len(a) && Compare(a[next], y) == 0 {
			next++
		}
	}
	return next == len(a)
}

// least reports whether nothing else is below a value of a valid type.
func least(t api.Type, v api.Value) bool {
	switch t.Kind {
	case api.TypeNat:
		return v.N == 0
	case api.TypeLabel:
		return true
	case api.TypeProduct:
		for i, p := range t.Parts {
			if !least(p, v.Kids[i]) {
				return false
			}
		}
		return true
	case api.TypePriority:
		return len(priority.Drops(t.Ranks, letters(v))) == 0
	}
	return len(v.Kids) == 0
}

func letters(v api.Value) []int {
	out := make([]int, len(v.Kids))
	for i, k := range v.Kids {
		out[i] = k.N
	}
	return out
}

func asTree(v api.Value) api.Tree {
	t := api.Tree{Label: v.N}
	for _, k := range v.Kids {
		t.Kids = append(t.Kids, asTree(k))
	}
	return t
}
