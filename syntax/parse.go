package syntax

import (
	"slices"
	"strconv"
	"strings"

	"coverability/api"
	"coverability/order"
	"coverability/token"
)

// Parse reads a model. It reads more than there is in the language, and then looks whether the text of what it has read is the text it was given.
func Parse(text string) (api.Model, int, api.Errno) {
	tokens, line, e := token.Scan(text)
	if e != api.OK {
		return api.Model{}, line, e
	}
	var p parser
	for len(tokens) > 0 {
		end := slices.IndexFunc(tokens, func(t api.Token) bool { return t.Kind == api.TokenEnd })
		p.words = tokens[:end]
		p.line()
		tokens = tokens[end+1:]
	}
	back, e := Text(p.m)
	if p.failed || e != api.OK || !sameTokens(back, text) {
		return api.Model{}, 0, api.ErrSyntax
	}
	return p.m, 0, api.OK
}

func sameTokens(a, b string) bool {
	s, _, _ := token.Scan(a)
	t, _, _ := token.Scan(b)
	return slices.EqualFunc(s, t, func(x, y api.Token) bool { return x.Kind == y.Kind && x.Text == y.Text })
}

// kindOf returns the kind with a name, and 0 if there is none.
func kindOf(name string) int {
	for kind, n := range kindNames {
		if n == name {
			return kind
		}
	}
	return 0
}

// parser reads the words of a line into a model; failed is set when one of them cannot be read.
type parser struct {
	m      api.Model
	words  []api.Token
	failed bool
}

// next takes the next word of the line.
func (p *parser) next() string {
	if len(p.words) == 0 {
		p.failed = true
		return ""
	}
	t := p.words[0].Text
	p.words = p.words[1:]
	return t
}

// is takes the next word of the line if it is a certain one.
func (p *parser) is(word string) bool {
	if len(p.words) == 0 || p.words[0].Text != word {
		return false
	}
	p.words = p.words[1:]
	return true
}

func (p *parser) number() int {
	n, err := strconv.Atoi(p.next())
	p.failed = p.failed || err != nil
	return n
}

// name takes a name, and returns its index in a list.
func (p *parser) name(names []string) int {
	i := slices.Index(names, p.next())
	p.failed = p.failed || i < 0
	return max(i, 0)
}

func (p *parser) names() []string {
	var out []string
	for len(p.words) > 0 {
		out = append(out, p.next())
	}
	return out
}

func (p *parser) line() {
	switch p.next() {
	case "model":
		p.m.Kind = kindOf(p.next())
	case "states":
		p.m.States = p.names()
	case "places":
		p.m.Places = p.names()
	case "letters":
		for len(p.words) > 0 {
			p.m.Letters = append(p.m.Letters, p.next())
			if p.m.Kind == api.KindPriority {
				p.m.Ranks = append(p.m.Ranks, p.number())
			}
		}
	case "levels":
		p.m.Levels = p.number()
	case "age":
		p.m.Age = p.number()
	case "rule":
		p.m.Rules = append(p.m.Rules, p.rule())
	case "start":
		p.m.Start = p.start()
	default:
		p.failed = true
	}
	p.failed = p.failed || len(p.words) > 0
}

// start reads the tokens of a value, which has spaces only between its parts.
func (p *parser) start() api.Value {
	text := strings.Join(p.names(), " ")
	text = strings.ReplaceAll(strings.ReplaceAll(text, " ( ", "("), " )", ")")
	v, e := order.Parse(text)
	p.failed = p.failed || e != api.OK
	return v
}

func (p *parser) rule() api.Rule {
	r := api.Rule{Name: p.next(), From: -1}
	if !p.is("0") {
		r.From = p.name(p.m.States)
	}
	if p.m.Kind == api.KindBranching {
		r.Second = -1
	}
	if p.is("+") {
		r.Second = p.name(p.m.States)
	}
	p.failed = p.failed || !p.is("->")
	r.To = p.name(p.m.States)
	if p.m.Kind == api.KindCounter || p.m.Kind == api.KindBranching {
		r.Need, r.Give = make([]int, len(p.m.Places)), make([]int, len(p.m.Places))
	}
	for len(p.words) > 0 && !p.failed {
		p.clause(&r)
	}
	return r
}

func (p *parser) clause(r *api.Rule) {
	switch p.next() {
	case "need":
		p.amount(r.Need)
	case "give":
		p.amount(r.Give)
	case "move":
		p.move(r, p.name(p.m.Places), p.name(p.m.Places))
	case "empty":
		p.move(r, p.name(p.m.Places), -1)
	case "send":
		r.Act, r.Channel, r.Letter = api.ActSend, p.name(p.m.Places), p.name(p.m.Letters)
	case "receive":
		r.Act, r.Channel, r.Letter = api.ActReceive, p.name(p.m.Places), p.name(p.m.Letters)
	case "path":
		r.Path = p.labels()
	case "next":
		r.Next = p.labels()
	case "take":
		r.Takes = append(r.Takes, api.Take{Place: p.name(p.m.Places), Low: p.number(), High: p.number()})
	case "make":
		r.Makes = append(r.Makes, p.name(p.m.Places))
	default:
		p.failed = true
	}
}

// amount reads a place and a number into a list; models that are no counters have none.
func (p *parser) amount(into []int) {
	place, n := p.name(p.m.Places), p.number()
	if place >= len(into) {
		p.failed = true
		return
	}
	into[place] = n
}

// move writes down where a place goes. A place that is not named in a list of moves is then written as one that is emptied, so the text is another one.
func (p *parser) move(r *api.Rule, place, to int) {
	if p.failed {
		return
	}
	if len(r.Move) == 0 {
		r.Move = slices.Repeat([]int{-1}, len(p.m.Places))
	}
	r.Move[place] = to
}

// labels reads letters as long as there are any.
func (p *parser) labels() []int {
	var out []int
	for len(p.words) > 0 && slices.Contains(p.m.Letters, p.words[0].Text) {
		out = append(out, p.name(p.m.Letters))
	}
	return out
}
