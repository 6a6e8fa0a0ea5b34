package translate

import (
	"fmt"
	"math/rand"
	"slices"
	"strings"
	"testing"

	"coverability/api"
	"coverability/counter"
	"coverability/model"
	"coverability/order"
	"coverability/program"
	"coverability/syntax"
	"coverability/values"
)

func parse(s string) api.Program {
	p, line, e := program.Parse(s)
	if e != api.OK {
		panic([]any{s, line, e})
	}
	return p
}

func val(s string) api.Value {
	v, e := order.Parse(s)
	if e != api.OK {
		panic(s)
	}
	return v
}

const whole = `values 2
thread main
spawn work
maybe 0
when 1
fail
end
thread work
set 1
end
`

// TestModel checks P38.1 by hand.
func TestModel(t *testing.T) {
	m, e := Model(parse(whole))
	text, e2 := syntax.Text(m)
	want := `model counter
states s0 s1
places p0 p1 p2 p3 p4
rule r0 s0 -> s0 need p0 1 give p1 1 give p4 1
rule r1 s1 -> s1 need p0 1 give p1 1 give p4 1
rule r2 s0 -> s0 need p1 1 give p0 1
rule r3 s0 -> s0 need p1 1 give p2 1
rule r4 s1 -> s1 need p1 1 give p0 1
rule r5 s1 -> s1 need p1 1 give p2 1
rule r6 s1 -> s1 need p2 1 give p3 1
rule r7 s0 -> s1 need p4 1
rule r8 s1 -> s1 need p4 1
start 0 ( 0 1 0 0 0 0 )
`
	if e != api.OK || e2 != api.OK || text != want {
		t.Errorf("Model gives %s, %d, %d", text, e, e2)
	}
	l, e := Meaning(parse(whole))
	if e != api.OK || fmt.Sprint(l) != "[{0 0 3 0 1} {0 0 3 1 1} {0 1 4 0 0} {0 1 4 0 2} {0 1 4 1 0} {0 1 4 1 2} {0 2 5 1 3} {1 0 9 1 -1} {1 0 9 1 -1}]" {
		t.Errorf("Meaning gives %v, %d", l, e)
	}
	self := parse("values 1\nthread t\nspawn t\njump 0\nend\n")
	if m, e := Model(self); e != api.OK || !slices.Equal(m.Rules[0].Give, []int{1, 1}) {
		t.Errorf("Model gives %v, %d", m, e)
	}
	fail := parse("values 3\nthread t\nfail\nend\n")
	if m, e := Model(fail); e != api.OK || len(m.Rules) != 0 || model.Check(m) != api.OK {
		t.Errorf("Model gives %v, %d", m, e)
	}
	loop := parse("values 1\nthread t\njump 0\nend\n")
	if m, e := Model(loop); e != api.OK || !slices.Equal(m.Rules[0].Give, []int{1}) || !slices.Equal(m.Rules[0].Need, []int{1}) {
		t.Errorf("Model gives %v, %d", m, e)
	}
}

// TestErrors checks the errors of P38.1 and P38.2.
func TestErrors(t *testing.T) {
	large := parse("values 7\nthread t\nstop\nset 0\nend\n")
	fits := parse("values 6\nthread t\nstop\nset 0\nend\n")
	for _, x := range []struct {
		p api.Program
		e api.Errno
	}{{api.Program{}, api.ErrProgram}, {large, api.ErrLimit}, {fits, api.OK}} {
		m, e1 := Model(x.p)
		l, e2 := Meaning(x.p)
		_, e3 := Config(x.p, -1, nil)
		_, _, e4 := Back(x.p, val("0"))
		_, e5 := Targets(x.p)
		if e1 != x.e || e2 != x.e || e5 != x.e || x.e != api.OK && (e3 != x.e || e4 != x.e || m.States != nil || l != nil) {
			t.Errorf("errors %d, %d, %d, %d, %d", e1, e2, e3, e4, e5)
		}
	}
	p := parse(whole)
	for _, x := range []struct {
		value  int
		counts []int
		e      api.Errno
	}{{2, nil, api.ErrRange}, {0, []int{-1}, api.ErrRange}, {0, []int{0, 0}, api.ErrLength}, {0, []int{0, 0, 0, 0, api.MaxNumber + 1}, api.ErrRange}} {
		if c, e := Config(p, x.value, x.counts); e != x.e || c.Kids != nil {
			t.Errorf("Config(%d, %v) gives %v, %d", x.value, x.counts, c, e)
		}
	}
	if c, e := Config(p, 1, []int{0, 2, 0, 0, 5}); e != api.OK || !values.Same(c, val("0(1 0 2 0 0 5)")) {
		t.Errorf("Config gives %v, %d", c, e)
	}
	if v, c, e := Back(p, val("0(1 0 2 0 0 5)")); e != api.OK || v != 1 || !slices.Equal(c, []int{0, 2, 0, 0, 5}) {
		t.Errorf("Back gives %d, %v, %d", v, c, e)
	}
	if v, c, e := Back(p, val("0(1 0 2 0 0)")); e != api.ErrConfig || v != 0 || c != nil {
		t.Errorf("Back gives %d, %v, %d", v, c, e)
	}
}

// TestTargets checks P38.2.
func TestTargets(t *testing.T) {
	if l, e := Targets(parse(whole)); e != api.OK || !values.SameLists(l, []api.Value{val("0(0 0 0 0 1 0)"), val("0(1 0 0 0 1 0)")}) {
		t.Errorf("Targets gives %v, %d", l, e)
	}
	two := parse("values 2\nthread t\nfail\nfail\nend\n")
	if l, e := Targets(two); e != api.OK || !values.SameLists(l, []api.Value{val("0(0 0 1)"), val("0(0 1 0)"), val("0(1 0 1)"), val("0(1 1 0)")}) {
		t.Errorf("Targets gives %v, %d", l, e)
	}
	if l, e := Targets(parse("values 1\nthread t\nstop\nend\n")); e != api.OK || len(l) != 0 {
		t.Errorf("Targets gives %v, %d", l, e)
	}
}

// TestLaws checks the consequences for random programs: rules do what their events do.
func TestLaws(t *testing.T) {
	r := rand.New(rand.NewSource(22))
	for range 200 {
		kinds := []string{"set 1", "when 0", "when 1", "jump 0", "maybe 0", "spawn t", "stop", "fail"}
		var l []string
		for range 1 + r.Intn(3) {
			l = append(l, kinds[r.Intn(len(kinds))])
		}
		p := parse("values 2\nthread t\n" + strings.Join(l, "\n") + "\nend\n")
		m, e1 := Model(p)
		meaning, e2 := Meaning(p)
		if e1 != api.OK || e2 != api.OK || model.Check(m) != api.OK || len(meaning) != len(m.Rules) {
			t.Fatalf("%v: Model gives %v, %d, Meaning %v, %d", l, m, e1, meaning, e2)
		}
		for range 20 {
			counts := make([]int, len(l))
			for i := range counts {
				counts[i] = r.Intn(3)
			}
			value := r.Intn(2)
			c, _ := Config(p, value, counts)
			events, _ := program.Steps(p, value, counts)
			enabled := 0
			for rule, event := range meaning {
				ok, _ := counter.Enabled(m, rule, c)
				if !ok {
					continue
				}
				enabled++
				behind, e1 := counter.Apply(m, rule, c)
				v, n, e2 := program.Do(p, value, counts, event)
				want, _ := Config(p, v, n)
				if e1 != api.OK || e2 != api.OK || !slices.Contains(events, event) || !values.Same(behind, want) {
					t.Fatalf("%v: rule %d leads from %v to %v, and %v to %v", l, rule, c, behind, event, want)
				}
			}
			if enabled != len(events) {
				t.Fatalf("%v: %d rules, but %d events in %v", l, enabled, len(events), c)
			}
		}
	}
}
