package source

import (
	"slices"
	"testing"

	"coverability/api"
	"coverability/order"
	"coverability/program"
	"coverability/run"
	"coverability/translate"
	"coverability/values"
)

func parse(s string) api.Program {
	p, line, e := program.Parse(s)
	if e != api.OK {
		panic([]any{s, line, e})
	}
	return p
}

func val(s string) api.Value {
	v, e := order.Parse(s)
	if e != api.OK {
		panic(s)
	}
	return v
}

func whole() api.Program {
	return parse("values 2\nthread main\nspawn work\nmaybe 0\nwhen 1\nfail\nend\nthread work\nset 1\nend\n")
}

// safe waits for a value that no thread sets.
func safe() api.Program {
	return parse("values 2\nthread main\nwhen 1\nfail\nend\n")
}

func events() []api.Event {
	return []api.Event{{Thread: 0, Line: 0, Number: 3, Value: 0, Next: 1}, {Thread: 1, Line: 0, Number: 9, Value: 1, Next: -1}, {Thread: 0, Line: 1, Number: 4, Value: 1, Next: 2}, {Thread: 0, Line: 2, Number: 5, Value: 1, Next: 3}}
}

// TestEventsAndSteps checks P39.1 by hand.
func TestEventsAndSteps(t *testing.T) {
	p := whole()
	l, e := Steps(p, events())
	want := []api.Step{{Rule: 0, Config: val("0(0 0 1 0 0 1)")}, {Rule: 7, Config: val("0(1 0 1 0 0 0)")}, {Rule: 5, Config: val("0(1 0 0 1 0 0)")}, {Rule: 6, Config: val("0(1 0 0 0 1 0)")}}
	if e != api.OK || !values.SameSteps(l, want) {
		t.Fatalf("Steps gives %v, %d", l, e)
	}
	if back, e := Events(p, l); e != api.OK || !slices.Equal(back, events()) {
		t.Errorf("Events gives %v, %d", back, e)
	}
	if back, e := Events(p, nil); e != api.OK || len(back) != 0 {
		t.Errorf("Events of nothing gives %v, %d", back, e)
	}
	large := parse("values 7\nthread t\nstop\nset 0\nend\n")
	for _, x := range []struct {
		p api.Program
		l []api.Step
		e api.Errno
	}{{api.Program{}, nil, api.ErrProgram}, {large, want, api.ErrLimit}, {p, want[1:], api.ErrRun}, {p, make([]api.Step, 65), api.ErrLimit}, {p, []api.Step{{Rule: -1}}, api.ErrRun}} {
		if l, e := Events(x.p, x.l); e != x.e || l != nil {
			t.Errorf("Events gives %v, %d", l, e)
		}
	}
	wrong := events()[0]
	wrong.Number = 4
	for _, x := range []struct {
		p api.Program
		l []api.Event
		e api.Errno
	}{{api.Program{}, nil, api.ErrProgram}, {large, nil, api.ErrLimit}, {p, make([]api.Event, 65), api.ErrLimit}, {p, events()[1:], api.ErrBlocked}, {p, []api.Event{wrong}, api.ErrBlocked}, {p, []api.Event{{Thread: 9}}, api.ErrBlocked}} {
		if l, e := Steps(x.p, x.l); e != x.e || l != nil {
			t.Errorf("Steps gives %v, %d", l, e)
		}
	}
	loop := parse("values 1\nthread t\njump 0\nend\n")
	if l, e := Steps(loop, slices.Repeat([]api.Event{{Number: 3}}, 64)); e != api.OK || len(l) != 64 {
		t.Errorf("Steps gives %d, %d", len(l), e)
	}
}

// TestReplay checks P39.2.
func TestReplay(t *testing.T) {
	p := whole()
	if v, c, n, e := Replay(p, events()); e != api.OK || v != 1 || n != 4 || !slices.Equal(c, []int{0, 0, 0, 1, 0}) {
		t.Errorf("Replay gives %d, %v, %d, %d", v, c, n, e)
	}
	if v, c, n, e := Replay(p, nil); e != api.OK || v != 0 || n != 0 || !slices.Equal(c, []int{1, 0, 0, 0, 0}) {
		t.Errorf("Replay gives %d, %v, %d, %d", v, c, n, e)
	}
	l := events()
	l[2] = l[1]
	if v, c, n, e := Replay(p, l); e != api.ErrBlocked || v != 0 || n != 2 || c != nil {
		t.Errorf("Replay gives %d, %v, %d, %d", v, c, n, e)
	}
	if _, _, n, e := Replay(api.Program{}, l); e != api.ErrProgram || n != 0 {
		t.Errorf("Replay gives %d, %d", n, e)
	}
	loop := parse("values 1\nthread t\njump 0\nend\n")
	if _, _, n, e := Replay(loop, slices.Repeat([]api.Event{{Number: 3}}, 1000)); e != api.OK || n != 1000 {
		t.Errorf("Replay gives %d, %d", n, e)
	}
}

// TestText checks P39.3.
func TestText(t *testing.T) {
	if s, e := Text(whole(), events()); e != api.OK || s != "main 3 0\nwork 9 1\nmain 4 1\nmain 5 1\n" {
		t.Errorf("Text gives %q, %d", s, e)
	}
	if s, e := Text(whole(), nil); e != api.OK || s != "" {
		t.Errorf("Text gives %q, %d", s, e)
	}
	for _, x := range []api.Event{{Thread: 2}, {Thread: -1}, {Line: 4}, {Line: -1}, {Thread: 1, Line: 1}} {
		if s, e := Text(whole(), []api.Event{events()[0], x}); e != api.ErrProgram || s != "" {
			t.Errorf("Text of %v gives %q, %d", x, s, e)
		}
	}
	if _, e := Text(api.Program{}, nil); e != api.ErrProgram {
		t.Errorf("Text gives %d", e)
	}
}

// TestFailure checks P39.4 and the consequences.
func TestFailure(t *testing.T) {
	for _, x := range []struct {
		p      api.Program
		budget int
		ok     bool
		e      api.Errno
	}{
		{whole(), 1000, true, api.OK}, {whole(), 1, false, api.ErrBudget}, {safe(), 1000, false, api.OK}, {safe(), 0, false, api.ErrBudget}, {parse("values 2\nthread t\nfail\nend\n"), 0, true, api.OK}, {parse("values 2\nthread t\nset 1\nend\n"), 0, false, api.OK},
		{parse("values 2\nthread t\nspawn u\nwhen 1\nfail\nend\nthread u\nset 1\nend\n"), 1000, true, api.OK}, {api.Program{}, 9, false, api.ErrProgram}, {parse("values 7\nthread t\nstop\nset 0\nend\n"), 9, false, api.ErrLimit},
	} {
		l, ok, e := Failure(x.p, x.budget)
		if ok != x.ok || e != x.e || !ok && l != nil {
			t.Errorf("Failure gives %v, %v, %d", l, ok, e)
			continue
		}
		if !ok {
			continue
		}
		v, c, n, e := Replay(x.p, l)
		if e != api.OK || n != len(l) || !program.Fails(x.p, c) {
			t.Errorf("the events %v lead to %v, %d", l, c, e)
		}
		m, _ := translate.Model(x.p)
		steps, e := Steps(x.p, l)
		last, _, e2 := run.Replay(m, steps)
		w, d, e3 := translate.Back(x.p, last)
		if e != api.OK || e2 != api.OK || e3 != api.OK || w != v || !slices.Equal(c, d) {
			t.Errorf("the run of %v leads to %v", l, last)
		}
		if again, e := Events(x.p, steps); e != api.OK || !slices.Equal(again, l) {
			t.Errorf("Events of Steps of %v gives %v, %d", l, again, e)
		}
	}
}

// TestOneMissing checks P39.1: an event needs its rule from the value that is there.
func TestOneMissing(t *testing.T) {
	p := parse("values 2\nthread t\nmaybe 0\nset 1\njump 0\nend\n")
	good := []api.Event{{Number: 3, Next: 1}, {Line: 1, Number: 4, Value: 1, Next: 2}, {Line: 2, Number: 5, Value: 1, Next: 0}, {Number: 3, Value: 1, Next: 1}}
	if l, e := Steps(p, good); e != api.OK || len(l) != 4 {
		t.Errorf("Steps gives %v, %d", l, e)
	}
	for i := range good {
		bad := slices.Clone(good)
		bad[i].Value = 1 - bad[i].Value
		if l, e := Steps(p, bad); e != api.ErrBlocked || l != nil {
			t.Errorf("Steps gives %v, %d", l, e)
		}
	}
}
