package model

import (
	"slices"

	"coverability/api"
	"coverability/token"
)

// form says how many things a kind of models has.
type form struct {
	leastPlaces, mostPlaces   int
	leastLetters, mostLetters int
	leastLevels, mostLevels   int
	mostAge                   int
}

// forms is indexed by the kind.
var forms = [...]form{
	api.KindCounter:   {leastPlaces: 1, mostPlaces: api.MaxDim},
	api.KindLossy:     {leastPlaces: 1, mostPlaces: api.MaxChannels, leastLetters: 1, mostLetters: api.MaxLetters},
	api.KindPriority:  {leastPlaces: 1, mostPlaces: api.MaxChannels, leastLetters: 1, mostLetters: api.MaxLetters},
	api.KindNested:    {leastLetters: 1, mostLetters: api.MaxLetters, leastLevels: 1, mostLevels: api.MaxLevels},
	api.KindTimed:     {leastPlaces: 1, mostPlaces: api.MaxDim, mostAge: api.MaxAge},
	api.KindBranching: {leastPlaces: 1, mostPlaces: api.MaxDim},
}

// counted reports whether a model of one of the kinds has as many things as it may have.
func counted(m api.Model) bool {
	f := forms[m.Kind]
	return between(len(m.States), 1, api.MaxStates) && between(len(m.Places), f.leastPlaces, f.mostPlaces) &&
		between(len(m.Letters), f.leastLetters, f.mostLetters) && len(m.Rules) <= api.MaxRules &&
		between(m.Levels, f.leastLevels, f.mostLevels) && between(m.Age, 0, f.mostAge)
}

func ranked(m api.Model) bool {
	if m.Kind != api.KindPriority {
		return len(m.Ranks) == 0
	}
	return len(m.Ranks) == len(m.Letters) && allBetween(m.Ranks, 0, api.MaxLetters-1)
}

// named reports whether all names are right, and none is there twice.
func named(m api.Model) bool {
	names := slices.Concat(m.States, m.Places, m.Letters)
	for _, r := range m.Rules {
		names = append(names, r.Name)
	}
	seen := make(map[string]bool, len(names))
	for _, n := range names {
		if seen[n] || keyword(n) || !token.Word(n) {
			return false
		}
		seen[n] = true
	}
	return true
}

// keyword reports whether a word begins a line or a clause of texts: then it is no name.
func keyword(s string) bool {
	switch s {
	case "model", "states", "places", "letters", "levels", "age", "rule", "need", "give", "move", "empty", "send", "receive", "path", "next", "take", "make", "start":
		return true
	}
	return false
}

// right reports whether a rule is one of a model.
func right(m api.Model, r api.Rule) bool {
	least := 0
	if m.Kind == api.KindBranching {
		least = -1
	}
	if !between(r.From, least, len(m.States)-1) || !between(r.To, 0, len(m.States)-1) || !onlyOwn(m.Kind, r) {
		return false
	}
	switch m.Kind {
	case api.KindCounter:
		return amounts(m, r) && (len(r.Move) == 0 || len(r.Move) == len(m.Places) && allBetween(r.Move, -1, len(m.Places)-1))
	case api.KindLossy, api.KindPriority:
		return acts(m, r)
	case api.KindNested:
		last := len(m.Letters) - 1
		return len(r.Path) <= m.Levels && len(r.Next) <= m.Levels && len(r.Path)+len(r.Next) > 0 && allBetween(r.Path, 0, last) && allBetween(r.Next, 0, last)
	case api.KindTimed:
		return takes(m, r) && len(r.Makes) <= api.MaxTakes && allBetween(r.Makes, 0, len(m.Places)-1) && slices.IsSorted(r.Makes)
	}
	if r.From == -1 && (r.Second != -1 || slices.Max(append([]int{0}, r.Need...)) > 0) {
		return false
	}
	return amounts(m, r) && between(r.Second, -1, len(m.States)-1)
}

// onlyOwn reports whether the fields of a rule that other kinds have are zero.
func onlyOwn(kind int, r api.Rule) bool {
	counts := kind == api.KindCounter || kind == api.KindBranching
	channels := kind == api.KindLossy || kind == api.KindPriority
	return (counts || len(r.Need) == 0 && len(r.Give) == 0) &&
		(kind == api.KindCounter || len(r.Move) == 0) &&
		(channels || r.Channel == 0 && r.Act == 0 && r.Letter == 0) &&
		(kind == api.KindNested || len(r.Path) == 0 && len(r.Next) == 0) &&
		(kind == api.KindTimed || len(r.Takes) == 0 && len(r.Makes) == 0) &&
		(kind == api.KindBranching || r.Second == 0)
}

func amounts(m api.Model, r api.Rule) bool {
	n := len(m.Places)
	return len(r.Need) == n && len(r.Give) == n && allBetween(r.Need, 0, api.MaxEntry) && allBetween(r.Give, 0, api.MaxEntry)
}

func acts(m api.Model, r api.Rule) bool {
	if r.Act == api.ActNone {
		return r.Channel == 0 && r.Letter == 0
	}
	return between(r.Act, api.ActSend, api.ActReceive) && between(r.Channel, 0, len(m.Places)-1) && between(r.Letter, 0, len(m.Letters)-1)
}

func takes(m api.Model, r api.Rule) bool {
	for _, t := range r.Takes {
		if !between(t.Place, 0, len(m.Places)-1) || !between(t.Low, 0, t.High) || t.High > m.Age+1 {
			return false
		}
	}
	return len(r.Takes) <= api.MaxTakes
}

func between(x, least, most int) bool { return x >= least && x <= most }

func allBetween(l []int, least, most int) bool {
	for _, x := range l {
		if !between(x, least, most) {
			return false
		}
	}
	return true
}
