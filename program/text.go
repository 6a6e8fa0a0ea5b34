package program

import (
	"strconv"
	"strings"

	"coverability/api"
	"coverability/token"
)

// Text returns the text of a program.
func Text(p api.Program) (string, api.Errno) {
	if e := Check(p); e != api.OK {
		return "", e
	}
	var b strings.Builder
	b.WriteString(wordValues + " " + token.Number(p.Values) + "\n")
	for _, t := range p.Threads {
		b.WriteString(wordThread + " " + t.Name + "\n")
		for _, l := range t.Lines {
			b.WriteString(lineForms[l.Kind].word)
			switch lineForms[l.Kind].argument {
			case aValue, aLine:
				b.WriteString(" " + token.Number(l.A))
			case aThread:
				b.WriteString(" " + p.Threads[l.A].Name)
			}
			b.WriteString("\n")
		}
		b.WriteString(wordEnd + "\n")
	}
	return b.String(), api.OK
}

// Parse reads a program.
func Parse(s string) (api.Program, int, api.Errno) {
	if len(s) > api.MaxText {
		return api.Program{}, 0, api.ErrLimit
	}
	var r reader
	for line := range strings.Lines(s) {
		r.number++
		text, whole := strings.CutSuffix(line, "\n")
		if !whole || !r.line(text) {
			return api.Program{}, r.number, api.ErrProgram
		}
	}
	if r.inside || len(r.p.Threads) == 0 {
		return api.Program{}, r.number + 1, api.ErrProgram
	}
	if !r.resolve() || Check(r.p) != api.OK {
		return api.Program{}, 0, api.ErrProgram
	}
	return r.p, 0, api.OK
}

// reader reads the lines of a program one after the other.
type reader struct {
	p      api.Program
	number int      // of the line
	inside bool     // of a thread
	spawns []string // the names of threads that lines spawn, in order
}

// line reads a line; it returns false if it does not fit.
func (r *reader) line(text string) bool {
	word, argument, has := strings.Cut(text, " ")
	switch {
	case r.number == 1:
		var ok bool
		r.p.Values, ok = number(argument)
		return ok && word == wordValues
	case !r.inside:
		r.inside = true
		r.p.Threads = append(r.p.Threads, api.Thread{Name: argument})
		return word == wordThread && name(argument)
	case text == wordEnd:
		r.inside = false
		return true
	}
	for kind, f := range lineForms {
		if kind == 0 || f.word != word {
			continue
		}
		l := api.Line{Kind: kind, Number: r.number}
		ok := !has
		switch f.argument {
		case aValue, aLine:
			l.A, ok = number(argument)
		case aThread:
			r.spawns = append(r.spawns, argument)
			ok = name(argument)
		}
		t := &r.p.Threads[len(r.p.Threads)-1]
		t.Lines = append(t.Lines, l)
		return ok
	}
	return false
}

// resolve finds the threads that lines spawn by their names, when all are known.
func (r *reader) resolve() bool {
	index := map[string]int{}
	for i, t := range r.p.Threads {
		index[t.Name] = i
	}
	next := 0
	for _, t := range r.p.Threads {
		for i := range t.Lines {
			if lineForms[t.Lines[i].Kind].argument != aThread {
				continue
			}
			a, ok := index[r.spawns[next]]
			if !ok {
				return false
			}
			t.Lines[i].A = a
			next++
		}
	}
	return true
}

func number(s string) (int, bool) {
	n, err := strconv.Atoi(s)
	return n, err == nil && token.Number(n) == s
}
