package value

import (
	"slices"

	"broadside/api"
	"broadside/nest"
	"broadside/runes"
)

// tokens is those of a value but Space, which counts for nothing, and where what is opened ends.
type tokens struct {
	list []api.Token
	ends []int
}

// read is a value's tokens; none, if brackets are too deep, as there is no such value, either.
func read(v []api.Token) tokens {
	list := slices.DeleteFunc(slices.Clone(v), func(t api.Token) bool { return t.Kind == api.Space })
	ends, e := nest.Ends(list)
	if e != api.OK {
		return tokens{}
	}
	return tokens{list, ends}
}

// function is the name of the function at a place, in small letters; it is empty, if there is none, or it is not closed.
func (t tokens) function(at int) string {
	if t.list[at].Kind != api.Func || t.ends[at] == len(t.list) {
		return ""
	}
	return runes.Lower(t.list[at].Text)
}

// arguments is what a function, that is closed, has between its brackets: single tokens, with commas between.
func (t tokens) arguments(at int) ([]api.Token, bool) {
	from, to := at+1, t.ends[at]
	if from == to {
		return nil, true
	}
	var args []api.Token
	for _, part := range nest.Split(t.list, t.ends, from, to, api.Comma) {
		if part[1]-part[0] != 1 {
			return nil, false
		}
		args = append(args, t.list[part[0]])
	}
	return args, true
}

// items is the content list of these places, of functions that are known.
func (t tokens) items(from, to int, known map[string]maker) ([]api.Item, bool) {
	var l []api.Item
	for at := from; at < to; at = nest.Skip(t.ends, at) {
		item, is := t.item(at, known)
		if !is {
			return nil, false
		}
		l = append(l, item)
	}
	return l, len(l) > 0
}

// item is the part of a content list that begins at a place.
func (t tokens) item(at int, known map[string]maker) (api.Item, bool) {
	if t.list[at].Kind == api.String {
		return api.Item{Kind: api.IsText, Text: t.list[at].Text}, true
	}
	build, is := known[t.function(at)]
	if !is {
		return api.Item{}, false
	}
	args, is := t.arguments(at)
	if !is {
		return api.Item{}, false
	}
	return build(args)
}

// maker makes an item of a function's arguments, if they are such as the function has.
type maker func(args []api.Token) (api.Item, bool)

// functions is those of a content list, by name.
func functions() map[string]maker {
	return map[string]maker{
		"counter":  counter,
		"counters": counters,
		"string":   assigned(api.IsNamed),
		"element":  assigned(api.IsElement),
		"attr":     attribute,
	}
}

// counter makes the item of a counter: a name, and perhaps a style.
func counter(args []api.Token) (api.Item, bool) {
	name, rest, named := leading(args)
	style, is := last(rest, styles(), decimal)
	if !named || !is {
		return api.Item{}, false
	}
	return api.Item{Kind: api.IsCounter, Name: name, Style: style}, true
}

// counters makes the item of all counters of a name: it, a text, and perhaps a style.
func counters(args []api.Token) (api.Item, bool) {
	name, rest, named := leading(args)
	if !named || len(rest) == 0 || rest[0].Kind != api.String {
		return api.Item{}, false
	}
	style, is := last(rest[1:], styles(), decimal)
	if !is {
		return api.Item{}, false
	}
	return api.Item{Kind: api.IsCounters, Text: rest[0].Text, Name: name, Style: style}, true
}

// assigned is what makes the item of what a page assigns: a name, and perhaps which assignment counts.
func assigned(kind int) maker {
	return func(args []api.Token) (api.Item, bool) {
		name, rest, named := leading(args)
		n, is := last(rest, which(), api.First)
		if !named || !is {
			return api.Item{}, false
		}
		return api.Item{Kind: kind, Name: name, Which: n}, true
	}
}

// attribute makes the item of an attribute: a name.
func attribute(args []api.Token) (api.Item, bool) {
	name, is := only(args)
	if !is {
		return api.Item{}, false
	}
	return api.Item{Kind: api.IsAttr, Name: name}, true
}

// whole makes the item of all that an element says.
func whole(args []api.Token) (api.Item, bool) {
	if len(args) > 0 {
		return api.Item{}, false
	}
	return api.Item{Kind: api.IsAttr}, true
}

// last is the number of the word that stands last, if one does; else what is usual.
func last(rest []api.Token, words map[string]int, usual int) (int, bool) {
	if len(rest) == 0 {
		return usual, true
	}
	n, is := words[word(rest)]
	return n, is
}
