package expression

import (
	"fmt"
	"math/rand"
	"slices"
	"strings"
	"testing"

	"coverability/api"
	"coverability/word"
)

// prod reads a product: a digit is an optional letter, digits in brackets are a star.
func prod(s string) []api.Term {
	var out []api.Term
	star := false
	for _, c := range s {
		switch {
		case c == '[':
			out, star = append(out, api.Term{Star: true}), true
		case c == ']':
			star = false
		case star:
			out[len(out)-1].Letters = append(out[len(out)-1].Letters, int(c-'0'))
		default:
			out = append(out, api.Term{Letters: []int{int(c - '0')}})
		}
	}
	return out
}

func text(p []api.Term) string {
	var b strings.Builder
	for _, t := range p {
		s := strings.Trim(fmt.Sprint(t.Letters), "[]")
		if s = strings.ReplaceAll(s, " ", ""); t.Star {
			s = "[" + s + "]"
		}
		b.WriteString(s)
	}
	return b.String()
}

func texts(l [][]api.Term) string {
	var out []string
	for _, p := range l {
		out = append(out, text(p))
	}
	return strings.Join(out, " ")
}

func words(letters, length int) [][]int {
	out := [][]int{nil}
	for i := 0; i < len(out); i++ {
		if len(out[i]) < length {
			for x := range letters {
				out = append(out, slices.Concat(out[i], []int{x}))
			}
		}
	}
	return out
}

// in reports whether a word is one of a product, by trying all ways.
func in(p []api.Term, w []int) bool {
	if len(p) == 0 {
		return len(w) == 0
	}
	if in(p[1:], w) {
		return true
	}
	if len(w) == 0 || !slices.Contains(p[0].Letters, w[0]) {
		return false
	}
	if p[0].Star {
		return in(p, w[1:])
	}
	return in(p[1:], w[1:])
}

// random returns a product over two or three letters.
func random(r *rand.Rand, letters, terms int) []api.Term {
	var p []api.Term
	for range r.Intn(terms + 1) {
		t := api.Term{Star: r.Intn(2) == 0}
		if !t.Star {
			t.Letters = []int{r.Intn(letters)}
		}
		for x := range letters {
			if t.Star && r.Intn(2) == 0 {
				t.Letters = append(t.Letters, x)
			}
		}
		p = append(p, t)
	}
	return p
}

// TestCheck checks P9.1 and the errors of all functions.
func TestCheck(t *testing.T) {
	for _, x := range []struct {
		letters int
		p       []api.Term
		e       api.Errno
	}{
		{2, nil, api.OK}, {2, prod("01[][01]"), api.OK}, {0, prod("5"), api.ErrRange}, {7, nil, api.ErrRange}, {2, prod("2"), api.ErrWord}, {2, prod("[10]"), api.ErrWord},
		{2, prod("[00]"), api.ErrWord}, {2, prod("[02]"), api.ErrWord}, {2, []api.Term{{}}, api.ErrWord}, {2, []api.Term{{Letters: []int{0, 1}}}, api.ErrWord},
		{2, []api.Term{{Letters: []int{-1}}}, api.ErrWord}, {2, prod(strings.Repeat("0", 24)), api.OK}, {2, prod(strings.Repeat("7", 25)), api.ErrLimit},
	} {
		if e := Check(x.letters, x.p); e != x.e {
			t.Errorf("Check(%d, %s) gives %d", x.letters, text(x.p), e)
		}
		if x.e == api.OK {
			continue
		}
		n, e1 := Normal(x.letters, x.p)
		m, e2 := Maximise(x.letters, [][]api.Term{x.p})
		_, e3 := Meet(x.letters, x.p, nil)
		_, e4 := Append(x.letters, x.p, -1)
		_, ok, e5 := Behind(x.letters, x.p, -1)
		if e1 != x.e || e2 != x.e || e3 != x.e || e4 != x.e || e5 != x.e || ok || n != nil || m != nil || Has(x.letters, x.p, nil) || Leq(x.letters, x.p, prod("[01]")) || Leq(x.letters, nil, x.p) {
			t.Errorf("%s: something is accepted", text(x.p))
		}
	}
	if m, e := Maximise(0, nil); e != api.OK || len(m) > 0 {
		t.Errorf("Maximise of nothing gives %v, %d", m, e)
	}
	if _, e := Meet(2, nil, prod("2")); e != api.ErrWord {
		t.Errorf("Meet gives %d", e)
	}
	if _, e := Meet(2, prod("000000"), prod("11111")); e != api.ErrLimit {
		t.Errorf("Meet of 11 terms gives %d", e)
	}
	if Has(2, prod("[01]"), []int{16}) || Has(2, prod("[01]"), make([]int, 13)) || !Has(2, prod("[01]"), make([]int, 12)) || Has(2, prod("[01]"), []int{2}) {
		t.Error("Has is wrong")
	}
}

// TestNormal checks P9.1: Normal, Compare, Leq and Has, against words.
func TestNormal(t *testing.T) {
	for _, x := range [][2]string{{"", ""}, {"[]", ""}, {"0[01]1", "[01]"}, {"[0][01][1]", "[01]"}, {"[0]10", "[0]10"}, {"0[][0]", "[0]"}, {"[0][0]", "[0]"}, {"[0]1[0]", "[0]1[0]"}, {"10[0]", "1[0]"}} {
		if n, e := Normal(2, prod(x[0])); e != api.OK || text(n) != x[1] {
			t.Errorf("Normal of %s gives %s, %d", x[0], text(n), e)
		}
	}
	order := []string{"", "0", "1", "[]", "[0]", "[1]", "[01]", "00", "0[0]", "[0]0"}
	for i, a := range order {
		for j, b := range order {
			if c := Compare(prod(a), prod(b)); c != min(1, max(-1, i-j)) {
				t.Errorf("Compare(%s, %s) gives %d", a, b, c)
			}
		}
	}
	r := rand.New(rand.NewSource(9))
	all := words(2, 6)
	for range 1500 {
		p, q := random(r, 2, 4), random(r, 2, 4)
		n, _ := Normal(2, p)
		m, _ := Normal(2, q)
		leq, equal := true, true
		for _, w := range all {
			if Has(2, p, w) != in(p, w) || Has(2, n, w) != in(p, w) {
				t.Fatalf("Has of %s, or %s, and %v is wrong", text(p), text(n), w)
			}
			leq = leq && (!in(p, w) || in(q, w))
			equal = equal && in(p, w) == in(q, w)
		}
		if Leq(2, p, q) != leq || equal != (Compare(n, m) == 0) {
			t.Fatalf("%s and %s: Leq %v, Normal %s and %s", text(p), text(q), !leq, text(n), text(m))
		}
	}
}

// TestMeet checks P9.2: maximal products, and what two have in common, against words.
func TestMeet(t *testing.T) {
	if m, e := Maximise(2, [][]api.Term{prod("01"), prod("1[0]"), prod("0"), prod("[]01"), prod("[0]")}); e != api.OK || texts(m) != "01 1[0]" {
		t.Errorf("Maximise gives %s, %d", texts(m), e)
	}
	var many [][]api.Term
	for _, w := range words(4, 5) {
		if len(w) == 5 {
			p := []api.Term{}
			for _, x := range w {
				p = append(p, api.Term{Letters: []int{x}})
			}
			many = append(many, p)
		}
	}
	if m, e := Maximise(4, many); e != api.ErrLimit || m != nil {
		t.Errorf("Maximise of many gives %d, %d", len(m), e)
	}
	r := rand.New(rand.NewSource(4))
	all := words(3, 5)
	for range 600 {
		p, q := random(r, 3, 5), random(r, 3, 5)
		m, e := Meet(3, p, q)
		if again, _ := Maximise(3, m); e != api.OK || texts(again) != texts(m) {
			t.Fatalf("Meet(%s, %s) gives %s, %d", text(p), text(q), texts(m), e)
		}
		for _, w := range all {
			got := slices.ContainsFunc(m, func(x []api.Term) bool { return Has(3, x, w) })
			if got != (in(p, w) && in(q, w)) {
				t.Fatalf("Meet(%s, %s) gives %s: %v is wrong", text(p), text(q), texts(m), w)
			}
		}
	}
}

// TestBelow checks P9.3: complements, against words, and errors.
func TestBelow(t *testing.T) {
	for _, x := range []struct {
		letters int
		up      [][]int
		want    string
	}{{2, [][]int{{0, 1}}, "[1][0]"}, {2, nil, "[01]"}, {1, [][]int{{0}}, ""}, {1, [][]int{{0, 0, 0}}, "00"}, {2, [][]int{{0}, {1}}, ""}} {
		if b, e := Below(x.letters, x.up); e != api.OK || texts(b) != x.want || len(b) != 1 {
			t.Errorf("Below(%v) gives %s, %d", x.up, texts(b), e)
		}
	}
	if b, e := Below(2, [][]int{{0, 1}, nil}); e != api.OK || len(b) != 0 {
		t.Errorf("Below of the empty word gives %s, %d", texts(b), e)
	}
	for _, x := range []struct {
		letters int
		up      [][]int
		e       api.Errno
	}{{0, make([][]int, 4), api.ErrRange}, {7, nil, api.ErrRange}, {2, make([][]int, 4), api.ErrLimit}, {2, [][]int{{9}, {0, 0, 0, 0}}, api.ErrLimit}, {2, [][]int{{2}}, api.ErrWord}, {2, [][]int{{0, -1}}, api.ErrWord}} {
		if b, e := Below(x.letters, x.up); e != x.e || b != nil {
			t.Errorf("Below(%d, %v) gives %s, %d", x.letters, x.up, texts(b), e)
		}
	}
	r := rand.New(rand.NewSource(5))
	all := words(3, 6)
	for range 100 {
		var up [][]int
		for range r.Intn(4) {
			up = append(up, all[1+r.Intn(39)])
		}
		b, e := Below(3, up)
		if again, _ := Maximise(3, b); e != api.OK || texts(again) != texts(b) {
			t.Fatalf("Below(%v) gives %s, %d", up, texts(b), e)
		}
		for _, w := range all {
			above := slices.ContainsFunc(up, func(u []int) bool { return word.Leq(u, w) })
			if above == slices.ContainsFunc(b, func(p []api.Term) bool { return Has(3, p, w) }) {
				t.Fatalf("Below(%v) gives %s: %v is wrong", up, texts(b), w)
			}
		}
	}
	if b, e := Below(6, [][]int{{0, 1, 2}, {3, 4, 5}, {5, 2, 0}}); e != api.OK || len(b) == 0 {
		t.Errorf("Below of three words gives %d, %d", len(b), e)
	}
}

// TestAppendAndBehind checks P9.4, against words.
func TestAppendAndBehind(t *testing.T) {
	if b, ok, e := Behind(2, prod("01[0]"), 1); e != api.OK || !ok || text(b) != "[0]" {
		t.Errorf("Behind gives %s, %v, %d", text(b), ok, e)
	}
	if b, ok, e := Behind(3, prod("01[0]"), 2); e != api.OK || ok || len(b) > 0 {
		t.Errorf("Behind gives %s, %v, %d", text(b), ok, e)
	}
	if _, _, e := Behind(2, nil, 2); e != api.ErrRange {
		t.Errorf("Behind of no letter gives %d", e)
	}
	if _, e := Append(2, nil, 2); e != api.ErrRange {
		t.Errorf("Append of no letter gives %d", e)
	}
	full := prod(strings.Repeat("01", 12))
	if _, e := Append(2, full, 0); e != api.ErrLimit {
		t.Errorf("Append to a full product gives %d", e)
	}
	full[23] = api.Term{Star: true, Letters: []int{0}}
	if p, e := Append(2, full, 0); e != api.OK || len(p) != 23 {
		t.Errorf("Append to a full product that is not normal gives %d, %d", len(p), e)
	}
	r := rand.New(rand.NewSource(6))
	all := words(2, 5)
	for range 500 {
		p, x := random(r, 2, 5), r.Intn(2)
		a, e1 := Append(2, p, x)
		b, ok, e2 := Behind(2, p, x)
		if e1 != api.OK || e2 != api.OK {
			t.Fatalf("%s: errors %d, %d", text(p), e1, e2)
		}
		for _, w := range all {
			longer := in(p, w) || len(w) > 0 && w[len(w)-1] == x && in(p, w[:len(w)-1])
			if Has(2, a, w) != longer {
				t.Fatalf("Append(%s, %d) gives %s", text(p), x, text(a))
			}
			if (ok && Has(2, b, w)) != in(p, slices.Concat([]int{x}, w)) {
				t.Fatalf("Behind(%s, %d) gives %s, %v", text(p), x, text(b), ok)
			}
		}
	}
	p := prod("[01]0")
	a, _ := Append(2, p, 1)
	a[0].Letters[0] = 9
	if text(p) != "[01]0" {
		t.Error("a result shares memory with an argument")
	}
}

// TestMost checks P9.1, P9.2 and P9.4: as many letters, terms and products as there may be.
func TestMost(t *testing.T) {
	if Check(1, prod("0[0]")) != api.OK || Check(6, prod("5[012345]")) != api.OK || Check(7, nil) != api.ErrRange || Check(-1, nil) != api.ErrRange {
		t.Error("Check is wrong")
	}
	if b, e := Below(6, [][]int{{5}}); e != api.OK || texts(b) != "[01234]" {
		t.Errorf("Below gives %s, %d", texts(b), e)
	}
	if p, e := Append(2, prod(strings.Repeat("01", 11)+"0"), 1); e != api.OK || len(p) != 24 {
		t.Errorf("Append gives %d terms, %d", len(p), e)
	}
	var l [][]api.Term
	for _, w := range words(4, 4) {
		if len(w) == 4 {
			var p []api.Term
			for _, x := range w {
				p = append(p, api.Term{Letters: []int{x}})
			}
			l = append(l, p)
		}
	}
	if m, e := Maximise(4, l); e != api.OK || len(m) != 256 {
		t.Errorf("Maximise gives %d products, %d", len(m), e)
	}
	if m, e := Maximise(5, append(l, prod("4"))); e != api.ErrLimit || m != nil {
		t.Errorf("Maximise gives %d products, %d", len(m), e)
	}
}
