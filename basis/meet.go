package basis

import (
	"slices"

	"coverability/api"
	"coverability/order"
)

// Meet returns the minimal values above two values.
func Meet(t api.Type, a, b api.Value) ([]api.Value, api.Errno) {
	l, e := meetChecked(t, a, b)
	if e != api.OK {
		return nil, e
	}
	return limited(minimal(t, l))
}

// Intersect returns the intersection of two sets.
func Intersect(t api.Type, a, b []api.Value) ([]api.Value, api.Errno) {
	if e := both(t, a, b); e != api.OK {
		return nil, e
	}
	var all []api.Value
	for _, x := range a {
		for _, y := range b {
			l, e := meetChecked(t, x, y)
			if e != api.OK {
				return nil, e
			}
			all = append(all, l...)
		}
	}
	return limited(minimal(t, all))
}

// meetChecked returns the values of Meet, or its error.
func meetChecked(t api.Type, a, b api.Value) ([]api.Value, api.Errno) {
	if e := order.Check(t); e != api.OK {
		return nil, e
	}
	if !meets(t, false) {
		return nil, api.ErrKind
	}
	if !order.Valid(t, a) || !order.Valid(t, b) {
		return nil, api.ErrValue
	}
	if !merges(t, a, b) {
		return nil, api.ErrLimit
	}
	l, many := meet(t, a, b)
	if many {
		return nil, api.ErrLimit
	}
	for _, v := range l {
		if !order.Valid(t, v) {
			return nil, api.ErrLimit
		}
	}
	return l, api.OK
}

// meets reports whether values of a type have a meet, inside of a word or not.
func meets(t api.Type, inWord bool) bool {
	switch t.Kind {
	case api.TypeBag, api.TypeTree, api.TypePriority:
		return false
	case api.TypeWord:
		if inWord {
			return false
		}
		inWord = true
	}
	for _, p := range t.Parts {
		if !meets(p, inWord) {
			return false
		}
	}
	return true
}

// merges reports whether words in the same places are short enough together.
func merges(t api.Type, a, b api.Value) bool {
	if t.Kind == api.TypeWord {
		return len(a.Kids)+len(b.Kids) <= api.MaxMerge
	}
	for i, p := range t.Parts {
		if !merges(p, a.Kids[i], b.Kids[i]) {
			return false
		}
	}
	return true
}

// meet returns the minimal values above a and b, or that there are more than api.MaxBasis of them.
func meet(t api.Type, a, b api.Value) (l []api.Value, many bool) {
	switch t.Kind {
	case api.TypeNat:
		return []api.Value{{N: max(a.N, b.N)}}, false
	case api.TypeLabel:
		if a.N == b.N {
			return []api.Value{{N: a.N}}, false
		}
		return nil, false
	case api.TypeProduct:
		return meetProduct(t, a, b)
	}
	l = minimal(t, meetWords(t.Parts[0], nil, a.Kids, b.Kids))
	return l, len(l) > api.MaxBasis
}

// meetProduct combines the meets of the parts: all of them are minimal, and if one part has none, there is none, however many the others have.
func meetProduct(t api.Type, a, b api.Value) ([]api.Value, bool) {
	parts := make([][]api.Value, len(t.Parts))
	count, manyPart := 1, false
	for i, p := range t.Parts {
		l, many := meet(p, a.Kids[i], b.Kids[i])
		if len(l) == 0 && !many {
			return nil, false
		}
		parts[i] = l
		manyPart = manyPart || many
		count = min(count*len(l), api.MaxBasis+1)
	}
	if manyPart || count > api.MaxBasis {
		return nil, true
	}
	fronts := [][]api.Value{nil}
	for _, part := range parts {
		var longer [][]api.Value
		for _, f := range fronts {
			for _, v := range part {
				longer = append(longer, append(f[:len(f):len(f)], v))
			}
		}
		fronts = longer
	}
	out := make([]api.Value, len(fronts))
	for i, f := range fronts {
		out[i] = api.Value{Kids: f}
	}
	return out, false
}

// meetWords returns words that begin with front and go on with the letters of a and b, some of them together; the minimal ones above both are among them.
func meetWords(t api.Type, front, a, b []api.Value) []api.Value {
	if len(a) == 0 || len(b) == 0 {
		return []api.Value{{Kids: slices.Concat(front, a, b)}}
	}
	front = front[:len(front):len(front)]
	out := meetWords(t, append(front, a[0]), a[1:], b)
	out = append(out, meetWords(t, append(front, b[0]), a, b[1:])...)
	letters, _ := meet(t, a[0], b[0])
	for _, x := range letters {
		out = append(out, meetWords(t, append(front, x), a[1:], b[1:])...)
	}
	return out
}
