package kinds

import (
	"testing"

	"coverability/api"
	"coverability/syntax"
)

// TestKinds checks which models pass.
func TestKinds(t *testing.T) {
	for _, x := range []struct {
		text         string
		plain, steps api.Errno
	}{
		{"model counter\nstates a\nplaces x\nrule r a -> a\nstart 0(0 0)", api.OK, api.OK}, {"model counter\nstates a\nplaces x\nrule r a -> a empty x\nstart 0(0 0)", api.ErrKind, api.OK},
		{"model lossy\nstates a\nplaces x\nletters l\nstart 0(0 0)", api.ErrKind, api.OK}, {"model branching\nstates a\nplaces x", api.ErrKind, api.ErrKind}, {"", api.ErrKind, api.ErrKind},
	} {
		m, _, _ := syntax.Parse(x.text)
		if Plain(m) != x.plain || WithSteps(m) != x.steps {
			t.Errorf("%q: %d, %d", x.text, Plain(m), WithSteps(m))
		}
	}
	if e := Plain(api.Model{Kind: api.KindCounter}); e != api.ErrLimit {
		t.Errorf("the error of model.Check is not first: %d", e)
	}
}
