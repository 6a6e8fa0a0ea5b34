package predecessor

import (
	"coverability/api"
	"coverability/values"
)

// beforeCounts returns the minimal predecessors by a rule of a counter model. What a place needs behind the rule, the places that go there must have together: each way to share it is minimal.
func beforeCounts(r api.Rule, target api.Value) ([]api.Value, bool) {
	fronts := [][]int{r.Need}
	for place, n := range values.Numbers(target.Kids[1:]) {
		var sources, room []int
		for i, need := range r.Need {
			if goesTo(r, i) == place {
				sources = append(sources, i)
				room = append(room, api.MaxNumber-need)
			}
		}
		ways := shares(max(0, n-r.Give[place]), room)
		if len(ways) == 0 {
			return nil, false
		}
		fronts = shared(fronts, sources, ways)
	}
	if len(fronts) > api.MaxBasis {
		return nil, true
	}
	var out []api.Value
	for _, v := range fronts {
		out = append(out, values.Counter(r.From, v))
	}
	return out, false
}

func goesTo(r api.Rule, place int) int {
	if len(r.Move) == 0 {
		return place
	}
	return r.Move[place]
}

// shares returns the lists of numbers with a sum, each at most its room; it stops soon when there are more than api.MaxBasis.
func shares(sum int, room []int) [][]int {
	if len(room) == 0 {
		if sum == 0 {
			return [][]int{nil}
		}
		return nil
	}
	others := 0
	for _, x := range room[1:] {
		others += x
	}
	var out [][]int
	for x := max(0, sum-others); x <= min(sum, room[0]) && len(out) <= api.MaxBasis; x++ {
		for _, l := range shares(sum-x, room[1:]) {
			out = append(out, append([]int{x}, l...))
		}
	}
	return out
}

// shared adds each way to share a number among sources to each vector; it stops soon when there are more than api.MaxBasis.
func shared(fronts [][]int, sources []int, ways [][]int) [][]int {
	var out [][]int
	for _, f := range fronts {
		for _, w := range ways {
			if len(out) > api.MaxBasis {
				return out
			}
			v := append([]int(nil), f...)
			for k, i := range sources {
				v[i] += w[k]
			}
			out = append(out, v)
		}
	}
	return out
}
