package journal

import (
	"strings"
	"testing"

	"coverability/api"
	"coverability/backward"
	"coverability/cover"
	"coverability/order"
	"coverability/syntax"
)

func parse(text string) api.Model {
	m, line, e := syntax.Parse(text)
	if e != api.OK {
		panic([]any{text, line, e})
	}
	return m
}

func val(s string) api.Value {
	v, e := order.Parse(s)
	if e != api.OK {
		panic(s)
	}
	return v
}

func vals(l ...string) []api.Value {
	var out []api.Value
	for _, s := range l {
		out = append(out, val(s))
	}
	return out
}

func counters() api.Model {
	return parse("model counter\nstates a b\nplaces x y\nrule r a -> b need x 2 give y 1\nrule s b -> a need y 1 give x 1\nrule t a -> a need x 1 give y 2\nstart 0(0 3 0)")
}

func lossy() api.Model {
	return parse("model lossy\nstates a b\nplaces c\nletters l k\nrule put a -> a send c l\nrule end a -> b send c k\nrule get b -> b receive c l\nrule back b -> a receive c k\nstart 0(0 0)")
}

func skips() api.Model {
	return parse("model counter\nstates a\nplaces x y\nrule r a -> a need x 1 give y 2\nrule s a -> a need x 1 give y 3\nstart 0(0 0 0)")
}

// TestEntry checks P40.1 by hand.
func TestEntry(t *testing.T) {
	m := parse("model counter\nstates a\nplaces x\nrule r a -> a need x 2 give x 3\nstart 0(0 1)")
	log, s, e := Log(m, vals("0(0 3)"), 9)
	if e != api.OK || log != "0 0(0 2)\n.\n.\n" || s.Used != 2 || Entries(log) != 2 {
		t.Errorf("Log gives %q, %v, %d", log, s, e)
	}
	if log, s, e := Log(m, vals("0(0 3)"), 0); e != api.OK || log != "" || s.Used != 0 {
		t.Errorf("Log gives %q, %v, %d", log, s, e)
	}
	for _, x := range []struct {
		m     api.Model
		steps int
		e     api.Errno
	}{{api.Model{}, -1, api.ErrRange}, {api.Model{}, 0, api.ErrKind}, {m, 1, api.ErrValue}} {
		if log, s, e := Log(x.m, vals("7"), x.steps); e != x.e || log != "" || s.Basis != nil {
			t.Errorf("Log gives %q, %d", log, e)
		}
	}
	many := parse("model counter\nstates a\nplaces x y\nrule r a -> a move x x move y x\nstart 0(0 0 0)")
	if log, _, e := Log(many, vals("0(0 300 0)"), 5); e != api.ErrLimit || log != "" {
		t.Errorf("Log beyond a limit gives %q, %d", log, e)
	}
	start, _ := backward.Start(m, vals("0(0 3)"))
	one, _, _ := backward.Step(m, start)
	two, _, _ := backward.Step(m, one)
	other, _ := backward.Start(m, vals("0(0 4)"))
	for i, x := range []struct {
		m             api.Model
		before, after api.Search
		text          string
		e             api.Errno
	}{
		{m, start, one, "0 0(0 2)\n.\n", api.OK}, {m, one, two, ".\n", api.OK}, {m, start, two, "", api.ErrJournal}, {m, one, start, "", api.ErrJournal}, {m, one, one, "", api.ErrJournal}, {m, other, one, "", api.ErrJournal}, {parse("model branching\nstates a\nplaces x"), one, one, "", api.ErrKind}, {api.Model{Kind: 1}, one, one, "", api.ErrLimit},
		{m, api.Search{Used: 4}, api.Search{Used: 5, Origins: []api.Origin{{Rule: -1, Value: val("3")}}}, "-1 3\n.\n", api.OK},
	} {
		if s, e := Entry(x.m, x.before, x.after); e != x.e || s != x.text {
			t.Errorf("%d: Entry gives %q, %d", i, s, e)
		}
	}
}

// TestResume checks P40.2, the errors and what is not part of a journal.
func TestResume(t *testing.T) {
	m := counters()
	target := vals("0(0 0 2)")
	log, s, e := Log(m, target, 2)
	if e != api.OK || Entries(log) != 2 {
		t.Fatalf("Log gives %q, %d", log, e)
	}
	for _, tail := range []string{"", ".", "x", "0 0(0 1 0)\n", "0 0(0 1 0)\n.", ". \n", "\n", " .\n"} {
		if r, n, e := Resume(m, target, log+tail); e != api.OK || n != len(log) || !backward.Same(r, s) || Entries(log+tail) != 2 {
			t.Errorf("Resume with %q behind gives %v, %d, %d", tail, r, n, e)
		}
	}
	for _, x := range []struct {
		log string
		e   api.Errno
	}{
		{"0 0(0 0 1)\n.\n", api.OK}, {"-1 0(0 0 1)\n.\n", api.OK}, {"3 0(0 0 1)\n.\n", api.ErrJournal}, {"-2 0(0 0 1)\n.\n", api.ErrJournal}, {"00 0(0 0 1)\n.\n", api.ErrJournal}, {"+1 0(0 0 1)\n.\n", api.ErrJournal}, {"-0 0(0 0 1)\n.\n", api.ErrJournal}, {"0  0(0 0 1)\n.\n", api.ErrJournal}, {"0 0(0 0 01)\n.\n", api.ErrJournal},
		{"0 0(0 0)\n.\n", api.ErrJournal}, {"0 0(0 0 2)\n.\n", api.ErrJournal}, {"0 0(0 5 2)\n.\n", api.ErrJournal}, {"0\n.\n", api.ErrJournal}, {"\n.\n", api.ErrJournal}, {".\n.\n", api.ErrJournal}, {".\n", api.OK}, {"x\n", api.OK}, {"0 0(0 0 1)\n0 0(0 0 1)\n.\n", api.ErrJournal}, {"0 0(0 0 1) \n.\n", api.ErrJournal}, {"0 0(0 0 1)\r\n.\n", api.ErrJournal},
		{"0 0(0 3 0)\n0 0(0 2 0)\n.\n0 0(0 1 0)\n.\n", api.ErrJournal}, {"0 0(0 3 0)\n0 0(0 2 0)\n.\n.\n0 0(0 1 0)\n.\n", api.OK}, {strings.Repeat("x", 16*api.MaxText), api.OK}, {strings.Repeat("x", 16*api.MaxText+1), api.ErrLimit},
	} {
		if r, n, e := Resume(m, target, x.log); e != x.e || e != api.OK && (n != 0 || r.Basis != nil) {
			t.Errorf("Resume of %.40q gives %v, %d, %d", x.log, r, n, e)
		}
	}
	if _, _, e := Resume(m, vals("7"), strings.Repeat("x", 1<<20)); e != api.ErrValue {
		t.Errorf("Resume gives %d", e)
	}
	if _, _, e := Resume(api.Model{}, nil, ""); e != api.ErrKind {
		t.Errorf("Resume gives %d", e)
	}
	var b strings.Builder
	for i := range 512 { // the first value is that of the target
		b.WriteString("0 " + text(2000-i) + "\n")
	}
	one := parse("model counter\nstates a\nplaces x\nrule r a -> a\nstart 0(0 0)")
	if _, _, e := Resume(one, vals("0(0 2001)"), b.String()+".\n"); e != api.ErrLimit {
		t.Errorf("Resume of too many origins gives %d", e)
	}
	long := strings.TrimSuffix(b.String(), "0 "+text(2000-511)+"\n") + ".\n"
	if r, _, e := Resume(one, vals("0(0 2001)"), long); e != api.OK || len(r.Origins) != 512 || len(r.Basis) != 1 {
		t.Errorf("Resume of as many origins as there may be gives %d, %d", len(r.Origins), e)
	}
}

func text(n int) string {
	s, _ := order.Text(api.Value{Kids: []api.Value{{}, {N: n}}})
	return s
}

// TestDecide checks P40.3 and the consequences: wherever a search is interrupted, it has the answer of an undisturbed one.
func TestDecide(t *testing.T) {
	for _, x := range []struct {
		m       api.Model
		targets []api.Value
	}{{counters(), vals("0(0 0 3)", "0(1 1 1)")}, {counters(), vals("0(1 9 0)")}, {lossy(), vals("0(0 0(1 0))")}, {lossy(), vals("0(1 0(0 1))")}, {skips(), vals("0(0 0 3)")}} {
		want, e := cover.Decide(x.m, x.targets, 1000)
		if e != api.OK {
			t.Fatalf("cover.Decide gives %d", e)
		}
		full, _, _ := Log(x.m, x.targets, 1000)
		for k := 0; k <= want.Used; k++ {
			log, s, e := Log(x.m, x.targets, k)
			if e != api.OK || !strings.HasPrefix(full, log) {
				t.Fatalf("Log gives %q, %d", log, e)
			}
			for _, cut := range []string{log, log + "0 0(0", log + "."} {
				r, n, e := Resume(x.m, x.targets, cut)
				if e != api.OK || n != len(log) || !backward.Same(r, s) {
					t.Fatalf("Resume of %q gives %v, %d, %d", cut, r, n, e)
				}
				if c, e := Decide(x.m, x.targets, cut, 1000); e != api.OK || !cover.Same(c, want) {
					t.Errorf("Decide behind %d steps gives %v, %d and not %v", k, c, e, want)
				}
				if c, e := Decide(x.m, x.targets, cut, want.Used-k-1); k < want.Used && (e != api.OK || c.Decided || c.Used > want.Used) {
					t.Errorf("Decide behind %d steps with too few gives %v, %d", k, c, e)
				}
			}
		}
	}
	if _, e := Decide(counters(), vals("0(0 0 3)"), ".\n.\n", 9); e != api.ErrJournal {
		t.Errorf("Decide gives %d", e)
	}
	if _, e := Decide(counters(), vals("7"), "", 9); e != api.ErrValue {
		t.Errorf("Decide gives %d", e)
	}
	many := parse("model counter\nstates a\nplaces x y\nrule r a -> a move x x move y x\nstart 0(0 0 0)")
	if _, e := Decide(many, vals("0(0 300 0)"), "", 9); e != api.ErrLimit {
		t.Errorf("Decide beyond a limit gives %d", e)
	}
}

// TestNoText checks P40.1: an origin whose value has no text.
func TestNoText(t *testing.T) {
	after := api.Search{Used: 1, Origins: []api.Origin{{Value: api.Value{Kids: make([]api.Value, 200)}}}}
	if s, e := Entry(counters(), api.Search{}, after); e != api.ErrJournal || s != "" {
		t.Errorf("Entry gives %q, %d", s, e)
	}
}
