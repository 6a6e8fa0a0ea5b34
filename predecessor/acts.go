package predecessor

import (
	"slices"

	"coverability/api"
	"coverability/clone"
	"coverability/priority"
	"coverability/values"
)

// beforeAct returns predecessors by a rule of a model with channels, the minimal ones among them.
func beforeAct(m api.Model, r api.Rule, target api.Value) []api.Value {
	w := values.Numbers(target.Kids[1+r.Channel].Kids)
	words := [][]int{w}
	switch r.Act {
	case api.ActReceive:
		words = [][]int{slices.Concat([]int{r.Letter}, w)}
	case api.ActSend:
		words = beforeSend(m, r.Letter, w)
	}
	var out []api.Value
	for _, w := range words {
		v := clone.Value(target)
		v.Kids[0].N = r.From
		v.Kids[1+r.Channel].Kids = values.Leaves(w)
		out = append(out, v)
	}
	return out
}

// beforeSend returns the words that become greater than w when a letter is sent.
func beforeSend(m api.Model, letter int, w []int) [][]int {
	last := len(w) - 1
	sent := last >= 0 && w[last] == letter
	if m.Kind == api.KindLossy {
		if sent {
			return [][]int{w[:last]}
		}
		return [][]int{w}
	}
	// By ranks, the last letter is never lost: w must end with the letter. Behind the rest of w there may be letters that the letter supersedes; their least words have falling ranks.
	if !sent {
		return nil
	}
	words := [][]int{w[:last]}
	falling, _ := priority.Falling(m.Ranks, m.Ranks[letter])
	for _, f := range falling {
		words = append(words, slices.Concat(w[:last], f))
	}
	return words
}
