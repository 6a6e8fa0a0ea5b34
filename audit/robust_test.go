package audit_test

import (
	"fmt"
	"math/rand"
	"reflect"
	"strings"
	"testing"
	"time"

	"coverability/answer"
	"coverability/api"
	"coverability/audit"
	"coverability/backward"
	"coverability/basis"
	"coverability/bounded"
	"coverability/branching"
	"coverability/channel"
	"coverability/checker"
	"coverability/counter"
	"coverability/cover"
	"coverability/equation"
	"coverability/expression"
	"coverability/flat"
	"coverability/forward"
	"coverability/hilbert"
	"coverability/home"
	"coverability/invariant"
	"coverability/journal"
	"coverability/limit"
	"coverability/lossy"
	"coverability/matrix"
	"coverability/model"
	"coverability/multiset"
	"coverability/nested"
	"coverability/order"
	"coverability/predecessor"
	"coverability/priority"
	"coverability/program"
	"coverability/prune"
	"coverability/question"
	"coverability/reach"
	"coverability/run"
	"coverability/semiflow"
	"coverability/semilinear"
	"coverability/service"
	"coverability/simulate"
	"coverability/source"
	"coverability/step"
	"coverability/syntax"
	"coverability/timed"
	"coverability/token"
	"coverability/translate"
	"coverability/tree"
	"coverability/vector"
	"coverability/word"
)

// functions are all that the document lists, by layer.
func functions() map[string][]any {
	return map[string][]any{
		"vector":      {vector.Valid, vector.Finite, vector.Leq, vector.Compare, vector.Add, vector.Sub, vector.Max, vector.Min},
		"word":        {word.Valid, word.Compare, word.Embed, word.Proves, word.Leq, word.Drops, word.Merge},
		"multiset":    {multiset.Valid, multiset.Match, multiset.Proves, multiset.Most},
		"tree":        {tree.Valid, tree.Size, tree.Labels, tree.Leq, tree.Embed, tree.Proves, tree.Compare},
		"priority":    {priority.Valid, priority.Drops, priority.Embed, priority.Proves, priority.Leq, priority.Falling},
		"order":       {order.Check, order.Valid, order.Compare, order.Size, order.Leq, order.Sorted, order.Least, order.Text, order.Parse},
		"basis":       {basis.Check, basis.Minimise, basis.Has, basis.Insert, basis.Union, basis.Subset, basis.Meet, basis.Intersect},
		"limit":       {limit.Check, limit.Maximise, limit.Has, limit.Subset, limit.Union, limit.Intersect, limit.Below, limit.Above},
		"expression":  {expression.Check, expression.Has, expression.Leq, expression.Normal, expression.Compare, expression.Maximise, expression.Meet, expression.Below, expression.Append, expression.Behind},
		"matrix":      {matrix.Check, matrix.Transpose, matrix.Apply, matrix.Multiply, matrix.Rank, matrix.Kernel},
		"semiflow":    {semiflow.Of, semiflow.Holds, semiflow.Value, semiflow.Bound, semiflow.Allows},
		"hilbert":     {hilbert.Check, hilbert.Solves, hilbert.Minimal, hilbert.Free, hilbert.Split},
		"semilinear":  {semilinear.Check, semilinear.Times, semilinear.Proves, semilinear.Has, semilinear.Within, semilinear.Sum, semilinear.Shift},
		"token":       {token.Scan, token.Word, token.Number, token.Join},
		"model":       {model.Check, model.Type, model.Valid, model.State, model.Config, model.Matrix, model.Same},
		"syntax":      {syntax.Text, syntax.Parse},
		"counter":     {counter.Enabled, counter.Apply, counter.Effect},
		"channel":     {channel.Enabled, channel.Apply, channel.Losses, channel.Down},
		"nested":      {nested.Apply, nested.Count},
		"timed":       {timed.Apply, timed.Tick, timed.Tokens},
		"branching":   {branching.Derive, branching.Size, branching.All, branching.Shape},
		"step":        {step.Apply, step.Quiet, step.All, step.Down, step.Leq},
		"run":         {run.Replay, run.Check, run.Covers, run.Text, run.Parse},
		"predecessor": {predecessor.One, predecessor.Of, predecessor.All},
		"backward":    {backward.Start, backward.Step, backward.Run, backward.Done, backward.Hit, backward.Trail, backward.Same},
		"prune":       {prune.Excess, prune.Start, prune.Step, prune.Run, prune.Closed},
		"cover":       {cover.Decide, cover.Finish, cover.Proves, cover.Refutes, cover.Same},
		"forward":     {forward.Start, forward.Step, forward.Run, forward.Done, forward.Limits, forward.Covers, forward.Path, forward.Same},
		"bounded":     {bounded.Bound, bounded.All, bounded.Holds, bounded.Grows, bounded.Find, bounded.Repeat},
		"flat":        {flat.Check, flat.Times, flat.After, flat.Reaches, flat.Set, flat.Cycles},
		"lossy":       {lossy.Check, lossy.Has, lossy.Leq, lossy.Begin, lossy.Post, lossy.Loop, lossy.Maximise, lossy.Explore, lossy.Holds, lossy.Excludes},
		"invariant":   {invariant.Check, invariant.Holds, invariant.Closed, invariant.Potential, invariant.Excludes, invariant.Candidates, invariant.Candidate, invariant.Same},
		"reach":       {reach.Start, reach.Step, reach.Decide, reach.Proves, reach.Refutes, reach.Same},
		"equation":    {equation.Counts, equation.Solves, equation.Parikh, equation.Realise, equation.Flows},
		"home":        {home.Build, home.Check, home.Reach, home.Homes, home.Dead, home.Live, home.Components, home.Way, home.Same},
		"simulate":    {simulate.Check, simulate.Of, simulate.Greatest, simulate.Simulates, simulate.Holds, simulate.Trace, simulate.Accepts},
		"program":     {program.Check, program.Text, program.Parse, program.Places, program.Begin, program.Steps, program.Do, program.Fails, program.Same},
		"translate":   {translate.Model, translate.Meaning, translate.Config, translate.Back, translate.Targets},
		"source":      {source.Events, source.Steps, source.Replay, source.Text, source.Failure},
		"journal":     {journal.Entry, journal.Log, journal.Resume, journal.Entries, journal.Decide},
		"question":    {question.Check, question.Text, question.Parse, question.Same},
		"answer":      {answer.Ask, answer.Empty, answer.Same},
		"checker":     {checker.Check, checker.Closed},
		"service":     {service.Serve, service.Text, service.Batch},
		"audit":       {audit.Explore, audit.Agrees, audit.Both, audit.Sample},
	}
}

// keepsMore are the functions whose chapters say what comes with an error: layer and index.
var keepsMore = map[string]bool{"token 0": true, "syntax 1": true, "run 0": true, "run 1": true, "backward 1": true, "backward 2": true, "prune 2": true, "prune 3": true, "forward 1": true, "forward 2": true, "reach 1": true, "program 2": true, "source 2": true, "service 2": true}

const programText = "values 2\nthread main\nspawn work\nmaybe 0\nwhen 1\nfail\nend\nthread work\nset 1\nend\n"

func modelTexts() []string {
	return []string{
		"model counter\nstates a b\nplaces x y\nrule r a -> b need x 1 give y 2\nrule s b -> a need y 1 give x 1\nrule t a -> a give x 1\nstart 0(0 1 0)\n",
		"model counter\nstates a\nplaces x y\nrule r a -> a need x 1 give y 1\nrule s a -> a empty x move y x\nstart 0(0 2 1)\n",
		"model counter\nstates a b\nplaces x y\nrule r a -> b need x 1 give y 1\nrule s b -> a need y 1\nstart 0(0 2 0)\n",
		"model counter\nstates a\nplaces x\nstart 0(0 1048576)\n",
		"model lossy\nstates a b\nplaces c d\nletters l k\nrule p a -> a send c l\nrule g a -> b receive c k\nrule h b -> a send d k\nstart 0(0 0(0 1) 0)\n",
		"model priority\nstates a b\nplaces c\nletters l 0 k 1\nrule p a -> b send c l\nrule g b -> a receive c k\nrule h b -> b send c k\nstart 0(0 0(0 1))\n",
		"model nested\nstates a b\nletters l k\nlevels 2\nrule p a -> b next l k\nrule g b -> a path l next k\nrule h a -> a path k l\nstart 0(0 0)\n",
		"model timed\nstates a b\nplaces x y\nage 1\nrule p a -> b take x 0 1 make y\nrule g b -> a make x make x\nstart 0(0 0(0(0 0) 0(1 2)))\n",
		"model branching\nstates a\nplaces x\nrule p 0 -> a give x 2\nrule g a + a -> a need x 1\n",
	}
}

// maker makes arguments: often such as belong together, and often any.
type maker struct {
	r      *rand.Rand
	m      api.Model
	values []api.Value
	steps  []api.Step
	layer  string
}

// choose takes a model and what is reached in it.
func (k *maker) choose() {
	l := modelTexts()
	k.m, _, _ = syntax.Parse(l[k.r.Intn(len(l))])
	k.values, k.steps = []api.Value{k.m.Start}, nil
	for range 6 {
		if s, e := step.All(k.m, k.values[len(k.values)-1]); e == api.OK && len(s) > 0 {
			next := s[k.r.Intn(len(s))]
			k.values, k.steps = append(k.values, next.Config), append(k.steps, next)
		}
	}
}

func (k *maker) number() int {
	if k.r.Intn(3) > 0 {
		return k.r.Intn(5) - 1
	}
	l := []int{-1 << 63, -1 << 40, -1, 6, 7, 12, 13, 16, 64, 65, 128, 256, 257, 1 << 20, 1<<20 + 1, 1 << 40, 1<<40 + 1, 1 << 62, 1<<63 - 1}
	return l[k.r.Intn(len(l))]
}

func (k *maker) text() string {
	l := append(modelTexts(), programText, "cover 0(0 1 0)", "reach 0(0 0 0)", "bounded", "place x", "dead", "home", "0(0 1)", "0 0(0 0 0)\n.\n", "r 0(1 0 2)\n", "", "\n", ".\n", "(", "a ->b 12 # x", strings.Repeat("0(", 700), strings.Repeat("x ", 3000))
	s := l[k.r.Intn(len(l))]
	if k.r.Intn(4) == 0 && len(s) > 0 {
		i := k.r.Intn(len(s))
		s = s[:i] + string("0a( )\n-.#\xff"[k.r.Intn(10)]) + s[i+k.r.Intn(2):]
	}
	return s
}

func (k *maker) value(depth int) api.Value {
	switch k.r.Intn(20) {
	case 0: // deep
		v := api.Value{}
		for range 999 {
			v = api.Value{Kids: []api.Value{v}}
		}
		return v
	case 1: // wide
		return api.Value{Kids: make([]api.Value, 300)}
	case 2, 3, 4:
		v := api.Value{N: k.number()}
		for range k.r.Intn(4) {
			if depth > 0 {
				v.Kids = append(v.Kids, k.value(depth-1))
			}
		}
		return v
	}
	return k.values[k.r.Intn(len(k.values))]
}

// special makes what is of a type that any field would not make well.
func (k *maker) special(t reflect.Type) (any, bool) {
	switch t {
	case reflect.TypeFor[api.Model]():
		m := k.m
		if k.r.Intn(4) == 0 {
			v := reflect.ValueOf(&m).Elem()
			f := v.Field(k.r.Intn(v.NumField()))
			f.Set(k.make(f.Type(), 3))
		}
		return m, true
	case reflect.TypeFor[api.Value]():
		return k.value(3), true
	case reflect.TypeFor[[]api.Step]():
		return append([]api.Step{}, k.steps[:k.r.Intn(len(k.steps)+1)]...), k.r.Intn(3) > 0
	case reflect.TypeFor[api.Type]():
		ty, e := model.Type(k.m)
		return ty, e == api.OK && k.r.Intn(3) > 0
	case reflect.TypeFor[api.Program]():
		p, _, _ := program.Parse(programText)
		return p, k.r.Intn(3) > 0
	case reflect.TypeFor[api.Search]():
		s, _ := backward.Start(k.m, k.values[:1])
		s, _, _ = backward.Run(k.m, s, k.r.Intn(4))
		return s, k.r.Intn(3) > 0
	case reflect.TypeFor[api.Grown]():
		g, _ := forward.Start(k.m)
		g, _, _ = forward.Run(k.m, g, k.r.Intn(9))
		return g, k.r.Intn(3) > 0
	case reflect.TypeFor[api.Hunt]():
		h, _ := reach.Start(k.m, k.m.Start)
		return h, k.r.Intn(3) > 0
	case reflect.TypeFor[api.Graph]():
		g, _ := home.Build(k.m, 128)
		return g, k.r.Intn(3) > 0
	case reflect.TypeFor[api.Question]():
		return api.Question{Kind: 1 + k.r.Intn(6), Target: k.values[0]}, k.r.Intn(3) == 0
	}
	return nil, false
}

func (k *maker) make(t reflect.Type, depth int) reflect.Value {
	if x, ok := k.special(t); ok {
		return reflect.ValueOf(x)
	}
	v := reflect.New(t).Elem()
	switch t.Kind() {
	case reflect.Int:
		v.SetInt(int64(k.number()))
	case reflect.Bool:
		v.SetBool(k.r.Intn(2) == 0)
	case reflect.String:
		v.SetString(k.text())
	case reflect.Array:
		for i := range t.Len() {
			v.Index(i).Set(k.make(t.Elem(), depth-1))
		}
	case reflect.Struct:
		for i := range t.NumField() {
			v.Field(i).Set(k.make(t.Field(i).Type, depth-1))
		}
	case reflect.Slice:
		n := k.r.Intn(5)
		if k.r.Intn(40) == 0 {
			n = 300
		}
		if depth < 0 {
			n = 0
		}
		v.Set(reflect.MakeSlice(t, n, n+k.r.Intn(3)))
		for i := range n {
			if n < 300 || i < 2 {
				v.Index(i).Set(k.make(t.Elem(), depth-1))
			}
		}
	}
	return v
}

// memory collects where the slices of a value are; it returns false if two of them share memory.
func memory(v reflect.Value, seen map[uintptr]bool) bool {
	switch v.Kind() {
	case reflect.Slice:
		size := v.Type().Elem().Size()
		for i := range v.Cap() {
			at := v.Pointer() + uintptr(i)*size
			if seen[at] && size > 0 {
				return false
			}
			seen[at] = true
		}
		for i := range v.Len() {
			if !memory(v.Index(i), seen) {
				return false
			}
		}
	case reflect.Struct:
		for i := range v.NumField() {
			if !memory(v.Field(i), seen) {
				return false
			}
		}
	}
	return true
}

func zero(v reflect.Value) bool {
	return v.IsZero() || v.Kind() == reflect.Slice && v.Len() == 0
}

func show(l []reflect.Value) string {
	var b strings.Builder
	for _, v := range l {
		fmt.Fprintf(&b, "%v; ", v.Interface())
	}
	return b.String()
}

// TestRules checks R1, R2, R5 and R6 for all functions, with any arguments.
func TestRules(t *testing.T) {
	rounds := 40
	for layer, l := range functions() {
		k := &maker{r: rand.New(rand.NewSource(int64(len(layer)))), layer: layer}
		for n, f := range l {
			name := fmt.Sprint(layer, " ", n)
			for range rounds {
				k.choose()
				once(t, name, reflect.ValueOf(f), k)
				if t.Failed() {
					return
				}
			}
		}
	}
}

// once calls a function twice.
func once(t *testing.T, name string, f reflect.Value, k *maker) {
	var args []reflect.Value
	for i := range f.Type().NumIn() {
		args = append(args, k.make(f.Type().In(i), 4))
	}
	before := show(args)
	defer func() {
		if p := recover(); p != nil {
			t.Errorf("%s panics: %v with %.2000s", name, p, before)
		}
	}()
	begin := time.Now()
	out := f.Call(args)
	if d := time.Since(begin); d > 5*time.Second {
		t.Errorf("%s takes %v with %.2000s", name, d, before)
	}
	first := show(out)
	if show(args) != before {
		t.Errorf("%s changes its arguments: %.2000s", name, before)
	}
	seen := map[uintptr]bool{}
	for _, a := range args {
		memory(a, seen) // arguments may share memory
	}
	for _, o := range out {
		if !memory(o, seen) {
			t.Errorf("%s shares memory: %.2000s gives %.500s", name, before, first)
		}
	}
	if last := out[len(out)-1]; !keepsMore[name] && (last.Type() == reflect.TypeFor[api.Errno]() && last.Int() != 0 || last.Kind() == reflect.Bool && !last.Bool()) {
		for _, o := range out[:len(out)-1] {
			if !zero(o) {
				t.Errorf("%s: more than an error: %.2000s gives %.500s", name, before, first)
			}
		}
	}
	if again := show(f.Call(args)); again != first {
		t.Errorf("%s gives %.500s and then %.500s", name, first, again)
	}
}
