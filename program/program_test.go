package program

import (
	"fmt"
	"math/rand"
	"slices"
	"strings"
	"testing"

	"coverability/api"
)

const whole = `values 3
thread main
spawn work
maybe 0
when 2
fail
end
thread work
set 2
stop
end
`

func parse(s string) api.Program {
	p, line, e := Parse(s)
	if e != api.OK {
		panic([]any{s, line, e})
	}
	return p
}

// lines returns a program with one thread and some lines.
func lines(values int, l ...string) string {
	return fmt.Sprintf("values %d\nthread t\n%s\nend\n", values, strings.Join(l, "\n"))
}

// TestText checks P37.1: texts.
func TestText(t *testing.T) {
	p := parse(whole)
	want := api.Program{Values: 3, Threads: []api.Thread{
		{Name: "main", Lines: []api.Line{{Kind: api.LineSpawn, A: 1, Number: 3}, {Kind: api.LineMaybe, A: 0, Number: 4}, {Kind: api.LineWhen, A: 2, Number: 5}, {Kind: api.LineFail, Number: 6}}},
		{Name: "work", Lines: []api.Line{{Kind: api.LineSet, A: 2, Number: 9}, {Kind: api.LineStop, Number: 10}}},
	}}
	if !Same(p, want) || Check(p) != api.OK {
		t.Fatalf("Parse gives %v", p)
	}
	if s, e := Text(p); e != api.OK || s != whole {
		t.Errorf("Text gives %q, %d", s, e)
	}
	if s, e := Text(api.Program{}); e != api.ErrProgram || s != "" {
		t.Errorf("Text gives %q, %d", s, e)
	}
	for _, change := range []func(p *api.Program){
		func(p *api.Program) { p.Values = 4 }, func(p *api.Program) { p.Threads = p.Threads[:1] }, func(p *api.Program) { p.Threads[0].Name = "x" }, func(p *api.Program) { p.Threads[0].Lines[0].Number++ }, func(p *api.Program) { p.Threads[1].Lines = p.Threads[1].Lines[:1] },
	} {
		q := parse(whole)
		if change(&q); Same(p, q) {
			t.Errorf("Same sees no difference to %v", q)
		}
	}
}

// TestParseErrors checks P37.1: which line does not fit.
func TestParseErrors(t *testing.T) {
	for _, x := range []struct {
		text string
		line int
		e    api.Errno
	}{
		{strings.Repeat("x", api.MaxText+1), 0, api.ErrLimit}, {"", 1, api.ErrProgram}, {"values 1", 1, api.ErrProgram}, {"values 1\n", 2, api.ErrProgram}, {"values\n", 1, api.ErrProgram}, {"values  1\n", 1, api.ErrProgram}, {"values 01\n", 1, api.ErrProgram}, {"values 12345678\n", 1, api.ErrProgram},
		{"values +1\n", 1, api.ErrProgram}, {"values 1 \n", 1, api.ErrProgram}, {"thread a\n", 1, api.ErrProgram}, {"values 1\nthread a\n", 3, api.ErrProgram}, {"values 1\nthread a\nstop\n", 4, api.ErrProgram}, {"values 1\nthread a\nend", 3, api.ErrProgram}, {"values 1\nthread a\nend\n", 0, api.ErrProgram},
		{"values 1\nthread end\n", 2, api.ErrProgram}, {"values 1\nthread A\n", 2, api.ErrProgram}, {"values 1\nend\n", 2, api.ErrProgram}, {"values 1\n\n", 2, api.ErrProgram}, {"values 1\nthread a\nstop 0\nend\n", 3, api.ErrProgram}, {"values 1\nthread a\nstop \nend\n", 3, api.ErrProgram}, {"values 1\nthread a\nthread b\nend\n", 3, api.ErrProgram},
		{"values 1\nthread a\nset\nend\n", 3, api.ErrProgram}, {"values 1\nthread a\nset x\nend\n", 3, api.ErrProgram}, {"values 1\nthread a\nspawn values\nend\n", 3, api.ErrProgram}, {"values 1\nthread a\nstop\nend\nend\n", 5, api.ErrProgram}, {"values 1\nthread a\nend \nend\n", 3, api.ErrProgram}, {"values 1\nthread a\n set 0\nend\n", 3, api.ErrProgram},
		{lines(1, "set 1"), 0, api.ErrProgram}, {lines(9, "set 0"), 0, api.ErrProgram}, {lines(0, "stop"), 0, api.ErrProgram}, {lines(9999999, "stop"), 0, api.ErrProgram}, {lines(1, "jump 1"), 0, api.ErrProgram}, {lines(1, "jump 0"), 0, api.OK}, {lines(1, "spawn u"), 0, api.ErrProgram}, {lines(1, "spawn t"), 0, api.OK},
		{lines(8, "stop", "stop", "stop", "stop", "stop", "fail"), 0, api.OK}, {lines(8, "stop", "stop", "stop", "stop", "stop", "fail", "stop"), 0, api.ErrProgram}, {"values 1\nthread a\nstop\nend\nthread a\nstop\nend\n", 0, api.ErrProgram}, {"values 1\nthread set\nstop\nend\n", 0, api.OK}, {lines(1, "goto 0"), 3, api.ErrProgram},
		{"values 1\nthread a\nset 1\nend\nthread b\nrun\n", 6, api.ErrProgram}, {lines(1, ""), 3, api.ErrProgram}, {lines(1, " "), 3, api.ErrProgram},
	} {
		p, line, e := Parse(x.text)
		if line != x.line || e != x.e || e != api.OK && p.Threads != nil {
			t.Errorf("Parse(%.60q) gives %v, %d, %d", x.text, p, line, e)
		}
		if s, _ := Text(p); e == api.OK && s != x.text {
			t.Errorf("Text of Parse of %q is %q", x.text, s)
		}
	}
}

// TestCheck checks P37.1: which programs are valid, and that all functions say so.
func TestCheck(t *testing.T) {
	for i, change := range []func(p *api.Program){
		func(p *api.Program) { p.Values = 0 }, func(p *api.Program) { p.Values = 9 }, func(p *api.Program) { p.Threads = nil }, func(p *api.Program) { p.Threads[1].Lines = nil }, func(p *api.Program) { p.Threads[1].Name = "main" }, func(p *api.Program) { p.Threads[0].Name = "" }, func(p *api.Program) { p.Threads[0].Name = "values" },
		func(p *api.Program) { p.Threads[0].Lines[2].A = 3 }, func(p *api.Program) { p.Threads[0].Lines[2].A = -1 }, func(p *api.Program) { p.Threads[0].Lines[1].A = 4 }, func(p *api.Program) { p.Threads[0].Lines[0].A = 2 }, func(p *api.Program) { p.Threads[0].Lines[3].A = 1 }, func(p *api.Program) { p.Threads[1].Lines[1].A = 1 },
		func(p *api.Program) { p.Threads[1].Lines[0].Number = 8 }, func(p *api.Program) { p.Threads[1].Lines[0].Kind = 0 }, func(p *api.Program) { p.Threads[1].Lines[0].Kind = 8 }, func(p *api.Program) { p.Threads[1].Lines[0].Kind = -1 },
		func(p *api.Program) {
			p.Threads[1].Lines = append(p.Threads[1].Lines, api.Line{Kind: api.LineStop, Number: 11})
		}, func(p *api.Program) { p.Threads = make([]api.Thread, 7) },
	} {
		p := parse(whole)
		change(&p)
		_, e1 := Text(p)
		_, c, e2 := Begin(p)
		_, e3 := Steps(p, -1, nil)
		_, _, e4 := Do(p, -1, nil, api.Event{})
		if Check(p) != api.ErrProgram || e1 != api.ErrProgram || e2 != api.ErrProgram || e3 != api.ErrProgram || e4 != api.ErrProgram || c != nil || Places(p) != nil || Fails(p, []int{0, 0, 0, 1, 0, 0}) {
			t.Errorf("%d: a program is accepted that is not valid", i)
		}
	}
}

// TestEvents checks P37.2 and P37.3 by hand.
func TestEvents(t *testing.T) {
	p := parse(whole)
	if l := Places(p); fmt.Sprint(l) != "[[0 0] [0 1] [0 2] [0 3] [1 0] [1 1]]" {
		t.Errorf("Places gives %v", l)
	}
	if v, c, e := Begin(p); e != api.OK || v != 0 || !slices.Equal(c, []int{1, 0, 0, 0, 0, 0}) {
		t.Errorf("Begin gives %d, %v, %d", v, c, e)
	}
	all := []int{1, 2, 1, 1, 1, 1}
	for value, want := range map[int]string{
		0: "[{0 0 3 0 1} {0 1 4 0 0} {0 1 4 0 2} {1 0 9 2 1} {1 1 10 0 -1}]", 2: "[{0 0 3 2 1} {0 1 4 2 0} {0 1 4 2 2} {0 2 5 2 3} {1 0 9 2 1} {1 1 10 2 -1}]",
	} {
		if l, e := Steps(p, value, all); e != api.OK || fmt.Sprint(l) != want {
			t.Errorf("Steps(%d) gives %v, %d", value, l, e)
		}
	}
	for _, x := range []struct {
		e      api.Event
		value  int
		counts []int
	}{
		{api.Event{Thread: 0, Line: 0, Number: 3, Value: 2, Next: 1}, 2, []int{0, 3, 1, 1, 2, 1}}, {api.Event{Thread: 0, Line: 1, Number: 4, Value: 2, Next: 0}, 2, []int{2, 1, 1, 1, 1, 1}}, {api.Event{Thread: 1, Line: 1, Number: 10, Value: 2, Next: -1}, 2, []int{1, 2, 1, 1, 1, 0}},
	} {
		if v, c, e := Do(p, 2, all, x.e); e != api.OK || v != x.value || !slices.Equal(c, x.counts) {
			t.Errorf("Do(%v) gives %d, %v, %d", x.e, v, c, e)
		}
	}
	if v, c, e := Do(p, 0, all, api.Event{Thread: 0, Line: 2, Number: 5, Value: 2, Next: 3}); e != api.ErrBlocked || v != 0 || c != nil {
		t.Errorf("Do gives %d, %v, %d", v, c, e)
	}
	if v, c, e := Do(p, 0, all, api.Event{Thread: 1, Line: 0, Number: 9, Value: 2, Next: 1}); e != api.OK || v != 2 || c[4] != 0 || c[5] != 2 {
		t.Errorf("Do gives %d, %v, %d", v, c, e)
	}
	last := parse(lines(2, "maybe 0", "maybe 2", "maybe 1", "set 1"))
	if l, _ := Steps(last, 0, []int{1, 1, 1, 1}); fmt.Sprint(l) != "[{0 0 3 0 0} {0 0 3 0 1} {0 1 4 0 2} {0 2 5 0 1} {0 2 5 0 3} {0 3 6 1 -1}]" {
		t.Errorf("Steps gives %v", l)
	}
	end := parse(lines(1, "maybe 0"))
	if l, _ := Steps(end, 0, []int{1}); fmt.Sprint(l) != "[{0 0 3 0 0} {0 0 3 0 -1}]" {
		t.Errorf("Steps gives %v", l)
	}
	jump := parse(lines(1, "stop", "jump 1"))
	if l, _ := Steps(jump, 0, []int{0, 5}); fmt.Sprint(l) != "[{0 1 4 0 1}]" {
		t.Errorf("Steps gives %v", l)
	}
}

// TestErrors checks the errors of P37.2 and P37.3.
func TestErrors(t *testing.T) {
	p := parse(lines(2, "spawn t", "fail"))
	spawn := api.Event{Number: 3, Next: 1}
	for _, x := range []struct {
		value  int
		counts []int
		e      api.Event
		want   api.Errno
	}{
		{-1, nil, spawn, api.ErrRange}, {2, []int{0}, spawn, api.ErrRange}, {0, []int{-1}, spawn, api.ErrRange}, {0, []int{0, api.MaxNumber + 1}, spawn, api.ErrRange}, {0, []int{0}, spawn, api.ErrLength}, {0, []int{0, 0, 0}, spawn, api.ErrLength}, {0, []int{0, 9}, spawn, api.ErrBlocked},
		{0, []int{1, 9}, api.Event{Number: 4, Next: 1}, api.ErrBlocked}, {0, []int{1, api.MaxNumber}, spawn, api.ErrLimit}, {0, []int{api.MaxNumber, 0}, spawn, api.OK}, {0, []int{1, 9}, api.Event{Thread: 9}, api.ErrBlocked},
	} {
		_, c, e := Do(p, x.value, x.counts, x.e)
		if e != x.want || e != api.OK && c != nil {
			t.Errorf("Do(%d, %v, %v) gives %v, %d", x.value, x.counts, x.e, c, e)
		}
		_, e = Steps(p, x.value, x.counts)
		if x.want == api.ErrBlocked || x.want == api.ErrLimit {
			x.want = api.OK
		}
		if e != x.want {
			t.Errorf("Steps(%d, %v) gives %d", x.value, x.counts, e)
		}
	}
	for _, x := range []struct {
		counts []int
		ok     bool
	}{{[]int{0, 1}, true}, {[]int{5, 0}, false}, {[]int{0}, false}, {[]int{0, 1, 0}, false}, {nil, false}} {
		if Fails(p, x.counts) != x.ok {
			t.Errorf("Fails(%v) is not %v", x.counts, x.ok)
		}
	}
}

// TestLaws checks the consequences: with more threads, more can happen; texts of random programs are read again.
func TestLaws(t *testing.T) {
	r := rand.New(rand.NewSource(21))
	for range 300 {
		kinds := []string{"set 1", "when 0", "jump 0", "maybe 0", "spawn t", "stop", "fail"}
		var l []string
		for range 1 + r.Intn(5) {
			l = append(l, kinds[r.Intn(len(kinds))])
		}
		p := parse(lines(2, l...))
		if s, _ := Text(p); !Same(parse(s), p) {
			t.Fatalf("Parse of %q is another program", s)
		}
		few, more := make([]int, len(l)), make([]int, len(l))
		for i := range few {
			few[i] = r.Intn(2)
			more[i] = few[i] + r.Intn(2)
		}
		a, _ := Steps(p, 1, few)
		b, _ := Steps(p, 1, more)
		for _, e := range a {
			v, c, e1 := Do(p, 1, few, e)
			w, d, e2 := Do(p, 1, more, e)
			if !slices.Contains(b, e) || e1 != api.OK || e2 != api.OK || v != w {
				t.Fatalf("%v can happen with %v, but not with %v", e, few, more)
			}
			for i := range c {
				if c[i] > d[i] {
					t.Fatalf("%v leads to %v, and to %v", e, c, d)
				}
			}
		}
	}
}

// TestMost checks P37.1: as many threads as there may be, and the longest text.
func TestMost(t *testing.T) {
	s := "values 8\n"
	for i := range 6 {
		s += fmt.Sprintf("thread t%d\nset 7\nend\n", i)
	}
	if p, line, e := Parse(s); e != api.OK || line != 0 || len(p.Threads) != 6 {
		t.Errorf("Parse gives %v, %d, %d", p, line, e)
	}
	if _, line, e := Parse(strings.Repeat("x", api.MaxText)); e != api.ErrProgram || line != 1 {
		t.Errorf("Parse gives %d, %d", line, e)
	}
}
