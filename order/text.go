package order

import (
	"strconv"
	"strings"

	"coverability/api"
)

// Text returns the text of a value.
func Text(v api.Value) (string, api.Errno) {
	if Size(v) > api.MaxSize {
		return "", api.ErrLimit
	}
	var b strings.Builder
	write(&b, v)
	return b.String(), api.OK
}

// Parse reads the text of a value.
func Parse(s string) (api.Value, api.Errno) {
	if len(s) > api.MaxText {
		return api.Value{}, api.ErrLimit
	}
	r := reader{rest: s}
	v, ok := r.value()
	if !ok || r.rest != "" {
		return api.Value{}, api.ErrSyntax
	}
	// Other ways to write a number, such as 007, are not its text.
	if back, e := Text(v); e != api.OK || back != s {
		return api.Value{}, api.ErrSyntax
	}
	return v, api.OK
}

func write(b *strings.Builder, v api.Value) {
	b.WriteString(strconv.Itoa(v.N))
	if len(v.Kids) == 0 {
		return
	}
	before := "("
	for _, k := range v.Kids {
		b.WriteString(before)
		write(b, k)
		before = " "
	}
	b.WriteString(")")
}

// reader reads a value from a text; nodes counts what it has read.
type reader struct {
	rest  string
	nodes int
}

func (r *reader) value() (api.Value, bool) {
	r.nodes++
	if r.nodes > api.MaxSize {
		return api.Value{}, false
	}
	end := strings.IndexAny(r.rest, "( )")
	if end < 0 {
		end = len(r.rest)
	}
	n, err := strconv.Atoi(r.rest[:end])
	if err != nil {
		return api.Value{}, false
	}
	r.rest = r.rest[end:]
	v := api.Value{N: n}
	if !strings.HasPrefix(r.rest, "(") {
		return v, true
	}
	for {
		r.rest = r.rest[1:]
		k, ok := r.value()
		if !ok {
			return api.Value{}, false
		}
		v.Kids = append(v.Kids, k)
		if strings.HasPrefix(r.rest, ")") {
			r.rest = r.rest[1:]
			return v, true
		}
		if !strings.HasPrefix(r.rest, " ") {
			return api.Value{}, false
		}
	}
}
