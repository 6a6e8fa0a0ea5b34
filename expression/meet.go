package expression

import (
	"slices"

	"coverability/api"
)

// meetTerms is how many terms two products that are intersected have together.
const meetTerms = 10

// Meet returns the intersection of two products.
func Meet(letters int, p, q []api.Term) ([][]api.Term, api.Errno) {
	if e := Check(letters, p); e != api.OK {
		return nil, e
	}
	if e := Check(letters, q); e != api.OK {
		return nil, e
	}
	if len(p)+len(q) > meetTerms {
		return nil, api.ErrLimit
	}
	return limited(meet(p, q))
}

// Below returns the complement of an upward closed set of words.
func Below(letters int, up [][]int) ([][]api.Term, api.Errno) {
	if e := checkWords(letters, up); e != api.OK {
		return nil, e
	}
	rest := [][]api.Term{{others(letters, -1)}}
	for _, w := range up {
		var next [][]api.Term
		for _, p := range rest {
			if len(w) > 0 {
				next = append(next, meet(p, without(letters, w))...)
			}
		}
		rest = maximal(next)
	}
	return limited(maximal(rest))
}

func checkWords(letters int, up [][]int) api.Errno {
	if letters < 1 || letters > api.MaxLetters {
		return api.ErrRange
	}
	if len(up) > api.MaxForbidden {
		return api.ErrLimit
	}
	for _, w := range up {
		if len(w) > api.MaxForbidden {
			return api.ErrLimit
		}
	}
	for _, w := range up {
		for _, x := range w {
			if x < 0 || x >= letters {
				return api.ErrWord
			}
		}
	}
	return api.OK
}

// others returns the star of all letters but one.
func others(letters, but int) api.Term {
	t := api.Term{Star: true}
	for x := range letters {
		if x != but {
			t.Letters = append(t.Letters, x)
		}
	}
	return t
}

// without returns the product of the words that are not above a word: they have at most all letters of it but the last one, in order.
func without(letters int, w []int) []api.Term {
	var p []api.Term
	for i, x := range w {
		p = append(p, others(letters, x))
		if i+1 < len(w) {
			p = append(p, api.Term{Letters: []int{x}})
		}
	}
	return p
}

// meet returns the maximal products of the words of both p and q. What both have from some terms on is needed several times, so it is computed from the back.
func meet(p, q []api.Term) [][]api.Term {
	behind := make([][][]api.Term, len(q)+1) // for the terms of p behind the current one
	for j := range behind {
		behind[j] = [][]api.Term{nil}
	}
	for i := range len(p) {
		s := p[len(p)-1-i]
		here := make([][][]api.Term, len(q)+1)
		here[len(q)] = [][]api.Term{nil}
		for j := len(q) - 1; j >= 0; j-- {
			here[j] = meetFirst(s, q[j], behind[j], here[j+1], behind[j+1])
		}
		behind = here
	}
	return behind[0]
}

// meetFirst returns what two products have in common that begin with s and t, from what they have without s, without t, and without both.
func meetFirst(s, t api.Term, withoutS, withoutT, withoutBoth [][]api.Term) [][]api.Term {
	either := slices.Concat(withoutS, withoutT)
	switch {
	case s.Star && t.Star:
		return maximal(led(common(s, t), either))
	case !s.Star && t.Star && covers(t, s):
		return maximal(led(s, withoutS))
	case s.Star && !t.Star && covers(s, t):
		return maximal(led(t, withoutT))
	case compareTerms(s, t) == 0:
		return maximal(led(s, withoutBoth))
	}
	return maximal(either)
}

// common returns the star of the letters that two stars have in common.
func common(s, t api.Term) api.Term {
	out := api.Term{Star: true}
	for _, x := range s.Letters {
		if slices.Contains(t.Letters, x) {
			out.Letters = append(out.Letters, x)
		}
	}
	return out
}

// led puts a term in front of products.
func led(t api.Term, l [][]api.Term) [][]api.Term {
	var out [][]api.Term
	for _, p := range l {
		out = append(out, slices.Concat([]api.Term{t}, p))
	}
	return out
}
