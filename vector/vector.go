// Package vector is layer 1: vectors of natural numbers, in which an element may be without a bound.
package vector

import (
	"cmp"
	"slices"

	"coverability/api"
)

// Valid reports whether a vector is valid.
func Valid(v []int) bool {
	return every(v, func(x int) bool { return x == api.Omega || number(x) })
}

// Finite reports whether a vector is valid and has no element without a bound.
func Finite(v []int) bool { return every(v, number) }

// Leq reports whether a vector is at most another one, element by element.
func Leq(a, b []int) bool {
	return Valid(a) && Valid(b) && len(a) == len(b) && atMost(a, b)
}

// Compare orders vectors: shorter ones first, then by the first element that differs.
func Compare(a, b []int) int {
	if c := cmp.Compare(len(a), len(b)); c != 0 {
		return c
	}
	return slices.Compare(a, b)
}

// Add returns the sum.
func Add(a, b []int) ([]int, api.Errno) {
	if e := check(a, b); e != api.OK {
		return nil, e
	}
	sum := combine(a, b, func(x, y int) int {
		if x == api.Omega || y == api.Omega {
			return api.Omega
		}
		return x + y
	})
	if !Valid(sum) {
		return nil, api.ErrLimit
	}
	return sum, api.OK
}

// Sub returns the difference.
func Sub(a, b []int) ([]int, api.Errno) {
	if !Valid(a) || !Finite(b) {
		return nil, api.ErrRange
	}
	if len(a) != len(b) {
		return nil, api.ErrLength
	}
	if !atMost(b, a) {
		return nil, api.ErrNone
	}
	return combine(a, b, func(x, y int) int {
		if x == api.Omega {
			return api.Omega
		}
		return x - y
	}), api.OK
}

// Max returns the greater elements.
func Max(a, b []int) ([]int, api.Errno) {
	if e := check(a, b); e != api.OK {
		return nil, e
	}
	return combine(a, b, func(x, y int) int { return max(x, y) }), api.OK
}

// Min returns the lesser elements.
func Min(a, b []int) ([]int, api.Errno) {
	if e := check(a, b); e != api.OK {
		return nil, e
	}
	return combine(a, b, func(x, y int) int { return min(x, y) }), api.OK
}

func number(x int) bool { return x >= 0 && x <= api.MaxNumber }

func every(v []int, fits func(int) bool) bool {
	if len(v) > api.MaxDim {
		return false
	}
	for _, x := range v {
		if !fits(x) {
			return false
		}
	}
	return true
}

// atMost compares equally long vectors; api.Omega is greater than every number.
func atMost(a, b []int) bool {
	for i, x := range a {
		if x > b[i] {
			return false
		}
	}
	return true
}

func check(a, b []int) api.Errno {
	if !Valid(a) || !Valid(b) {
		return api.ErrRange
	}
	if len(a) != len(b) {
		return api.ErrLength
	}
	return api.OK
}

func combine(a, b []int, one func(x, y int) int) []int {
	out := make([]int, len(a))
	for i, x := range a {
		out[i] = one(x, b[i])
	}
	return out
}
