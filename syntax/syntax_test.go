package syntax

import (
	"strings"
	"testing"

	"coverability/api"
	"coverability/model"
	"coverability/token"
)

// texts are the texts of valid models, a line each for what is in one.
func texts() []string {
	return []string{
		"model counter\nstates a b\nplaces x\nrule up a -> b need x 1 give x 3\nstart 0 ( 0 2 )\n",
		"model counter\nstates a\nplaces x y z\nrule r a -> a give y 16 move x y move y y empty z\nrule s a -> a\nrule t a -> a empty x move y x move z z\nstart 0 ( 0 1048576 0 2 )\n",
		"model counter\nstates a\nplaces x\nstart 0 ( 0 0 )\n",
		"model lossy\nstates a b\nplaces c d\nletters l k\nrule r a -> b send d k\nrule s b -> a receive c l\nrule t a -> a\nstart 0 ( 0 0 ( 0 1 ) 0 )\n",
		"model priority\nstates a\nplaces c\nletters l 0 k 5\nrule r a -> a send c k\nstart 0 ( 0 0 )\n",
		"model nested\nstates a\nletters l k\nlevels 2\nrule r a -> a path l next l k\nrule s a -> a next k\nrule t a -> a path l k\nstart 0 ( 0 0 ( 0 ( 0 0 ( 1 1 ) ) ) )\n",
		"model nested\nstates a\nletters l\nlevels 1\nrule r a -> a next l\nstart 0 ( 0 0 )\n",
		"model timed\nstates a\nplaces x y\nage 0\nrule r a -> a take x 0 1 take y 1 1 make x make x make y\nrule s a -> a\nstart 0 ( 0 0 ( 0 ( 1 1 ) ) )\n",
		"model branching\nstates a b\nplaces x\nrule r 0 -> a give x 2\nrule s a + b -> a need x 1\nrule t b -> a\nrule u b + a -> b\n",
	}
}

// TestRoundTrips checks P16.1 and P16.2 for texts of all kinds, however they are spaced.
func TestRoundTrips(t *testing.T) {
	for _, s := range texts() {
		m, line, e := Parse(s)
		if e != api.OK || line != 0 {
			t.Errorf("Parse of %q gives %d, %d", s, line, e)
			continue
		}
		if back, e := Text(m); e != api.OK || back != s {
			t.Errorf("Text of %q gives %q, %d", s, back, e)
		}
		loose := "# a model\n\n" + strings.ReplaceAll(strings.ReplaceAll(s, " ( ", "("), " ", "\t ") + "  # end"
		if again, line, e := Parse(loose); e != api.OK || line != 0 || !model.Same(again, m) {
			t.Errorf("Parse of %q gives %d, %d", loose, line, e)
		}
		if cut, _, e := Parse(strings.TrimSuffix(s, "\n")); e != api.OK || !model.Same(cut, m) {
			t.Errorf("Parse without the last line feed gives %d", e)
		}
	}
	m, _, _ := Parse(texts()[8])
	if m.Rules[0].From != -1 || m.Rules[0].Second != -1 || m.Rules[1].Second != 1 || m.Rules[2].Second != -1 || m.Rules[2].From != 1 {
		t.Errorf("Parse of a branching model gives %v", m.Rules)
	}
	m, _, _ = Parse(texts()[1])
	if mv := m.Rules[0].Move; len(mv) != 3 || mv[0] != 1 || mv[1] != 1 || mv[2] != -1 || len(m.Rules[1].Move) != 0 || m.Rules[0].Give[1] != 16 {
		t.Errorf("Parse of moves gives %v", m.Rules)
	}
}

// TestWordsMatter checks P16.2: a text without one of its tokens, with one twice, or with two changed about, is another model's or none's.
func TestWordsMatter(t *testing.T) {
	for _, s := range texts() {
		l, _, _ := token.Scan(s)
		for i := range l {
			var without, twice, swapped []api.Token
			for j, x := range l {
				if j != i {
					without = append(without, x)
				}
				twice = append(twice, x)
				if j == i {
					twice = append(twice, x)
				}
				swapped = append(swapped, x)
			}
			if i > 0 {
				swapped[i-1], swapped[i] = swapped[i], swapped[i-1]
			}
			for _, changed := range [][]api.Token{without, twice, swapped} {
				text := token.Join(changed)
				m, line, e := Parse(text)
				if line != 0 || e != api.OK && e != api.ErrSyntax || e != api.OK && (m.Kind != 0 || m.States != nil) {
					t.Fatalf("Parse of %q gives %d, %d", text, line, e)
				}
				if back, _ := Text(m); e == api.OK && !sameTokens(back, text) {
					t.Errorf("Parse of %q gives the model of %q", text, back)
				}
			}
		}
	}
}

// TestErrors checks the errors of P16.1 and P16.2.
func TestErrors(t *testing.T) {
	good := texts()[0]
	for _, x := range []struct {
		text string
		line int
		e    api.Errno
	}{
		{"", 0, api.ErrSyntax}, {"model counter\nA", 2, api.ErrSyntax}, {strings.Repeat("#", 5000), 0, api.ErrLimit}, {strings.Repeat("(", 1025), 1, api.ErrLimit},
		{strings.Replace(good, "need x 1", "need x 0", 1), 0, api.ErrSyntax}, {strings.Replace(good, "need x 1", "need x 17", 1), 0, api.ErrSyntax}, {strings.Replace(good, "need x 1", "need y 1", 1), 0, api.ErrSyntax},
		{strings.Replace(good, "need x 1 give x 3", "give x 3 need x 1", 1), 0, api.ErrSyntax}, {strings.Replace(good, "need x 1", "need x 1 need x 1", 1), 0, api.ErrSyntax}, {strings.Replace(good, "x 1", "x", 1), 0, api.ErrSyntax},
		{strings.Replace(good, "need x 1", "send x 1", 1), 0, api.ErrSyntax}, {strings.Replace(good, "0 2", "0 ( ) 2", 1), 0, api.ErrSyntax}, {strings.Replace(good, "0 2", "0 2 2", 1), 0, api.ErrSyntax}, {good + good, 0, api.ErrSyntax},
		{strings.Replace(good, "a b", "a a", 1), 0, api.ErrSyntax}, {strings.Replace(good, "up a", "up 0", 1), 0, api.ErrSyntax}, {strings.Replace(good, "counter", "start", 1), 0, api.ErrSyntax}, {good + "age 0\n", 0, api.ErrSyntax},
		{strings.Replace(good, "start 0", "start start 0", 1), 0, api.ErrSyntax}, {strings.Replace(good, "start", "start :", 1), 0, api.ErrSyntax}, {strings.Replace(texts()[1], " empty z", "", 1), 0, api.ErrSyntax},
		{strings.Replace(texts()[1], "move x y move y y", "move y y move x y", 1), 0, api.ErrSyntax}, {"places x\nmodel counter\nrule a 0 -> a move x", 0, api.ErrSyntax}, {"rule a b -> c move x y", 0, api.ErrSyntax}, {"rule a b -> c need x 1", 0, api.ErrSyntax},
		{strings.Replace(texts()[8], "r 0 -> a", "r 0 + a -> a", 1), 0, api.ErrSyntax}, {texts()[8] + "start 0\n", 0, api.ErrSyntax}, {strings.Replace(texts()[4], "l 0", "l", 1), 0, api.ErrSyntax},
	} {
		m, line, e := Parse(x.text)
		if line != x.line || e != x.e || m.Kind != 0 || m.Rules != nil {
			t.Errorf("Parse of %.90q gives %d, %d", x.text, line, e)
		}
	}
	if s, e := Text(api.Model{}); s != "" || e != api.ErrKind {
		t.Errorf("Text gives %q, %d", s, e)
	}
	long := api.Model{Kind: api.KindCounter, States: []string{"a"}, Places: []string{"abcdefghijk1", "abcdefghijk2", "abcdefghijk3", "abcdefghijk4", "abcdefghijk5", "abcdefghijk6"}}
	long.Start = api.Value{Kids: make([]api.Value, 7)}
	for i := range 12 {
		amounts := []int{10, 10, 10, 10, 10, 10}
		long.Rules = append(long.Rules, api.Rule{Name: "r" + string(rune('a'+i)), Need: amounts, Give: amounts, Move: []int{0, 1, 2, 3, 4, 5}})
	}
	if s, e := Text(long); s != "" || e != api.ErrLimit {
		t.Errorf("Text of a large model gives %d bytes, %d", len(s), e)
	}
}

// TestLongest checks P16.1: a text of just as many bytes as there may be, and one of one more.
func TestLongest(t *testing.T) {
	m := api.Model{Kind: api.KindCounter, States: []string{"a"}, Places: []string{"abcdefghijk1", "abcdefghijk2", "abcdefghijk3", "abcdefghijk4", "abcdefghijk5", "p"}}
	m.Start = api.Value{Kids: make([]api.Value, 7)}
	size := func() int { return len(token.Join(write(m))) }
	for i := range 12 {
		amounts := []int{10, 10, 10, 10, 10, 0}
		m.Rules = append(m.Rules, api.Rule{Name: "r" + string(rune('a'+i)), Need: amounts, Give: amounts})
	}
	for i := range m.Rules {
		if m.Rules[i].Move = []int{0, 1, 2, 3, 4, 5}; size() > api.MaxText {
			m.Rules[i].Move = nil
		}
	}
	for i := range m.Rules {
		for len(m.Rules[i].Name) < api.MaxWord && size() < api.MaxText {
			m.Rules[i].Name += "x"
		}
	}
	for n := &m.Start.Kids[1].N; size() < api.MaxText && *n < 100000; {
		*n = max(10, *n*10)
	}
	if s, e := Text(m); size() != api.MaxText || e != api.OK || len(s) != api.MaxText {
		t.Errorf("Text of %d bytes gives %d, %d", size(), len(s), e)
	}
	m.Places[5] = "q1"
	if s, e := Text(m); e != api.ErrLimit || s != "" {
		t.Errorf("Text of %d bytes gives %d, %d", size(), len(s), e)
	}
}
