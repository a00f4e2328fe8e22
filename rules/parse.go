package rules

import (
	"broadside/api"
	"broadside/nest"
	"broadside/runes"
)

// sheet is tokens, and where what is opened ends.
type sheet struct {
	list []api.Token
	ends []int
}

// rules is all rules.
func (s sheet) rules() []api.Rule {
	var l []api.Rule
	for at := 0; at < len(s.list); {
		if s.list[at].Kind == api.Space {
			at++
			continue
		}
		end := s.end(at, len(s.list))
		if end < 0 {
			break
		}
		if r, is := s.rule(at, end); is {
			l = append(l, r)
		}
		at = nest.Skip(s.ends, end)
	}
	return l
}

// end is where what stands ahead of a rule's block ends: at the Open {, or at a Semi, of a rule without a block; -1, if there is none.
func (s sheet) end(at, to int) int {
	return nest.Find(s.list, s.ends, at, to, ending(s.list[at].Kind))
}

// rule is the rule that begins at a place, and whose block stands at end, if one does.
func (s sheet) rule(at, end int) (api.Rule, bool) {
	if !opensBlock(s.list[end]) {
		return api.Rule{}, false
	}
	kind, from := api.StyleRule, at
	if s.list[at].Kind == api.At {
		if s.name(at) != pageName {
			return api.Rule{}, false
		}
		kind, from = api.PageRule, at+1
	}
	prelude := s.part(nest.Trim(s.list, from, end))
	if !Sound(prelude) {
		return api.Rule{}, false
	}
	decls, margins := s.block(end, kind == api.PageRule)
	return api.Rule{Kind: kind, Prelude: prelude, Decls: decls, Margins: margins}, true
}

// block is what stands in the block that is opened at a place: of a page rule margin rules, too.
func (s sheet) block(open int, paged bool) (decls []api.Decl, margins []api.Margin) {
	for at, to := open+1, s.ends[open]; at < to; {
		switch s.list[at].Kind {
		case api.Space, api.Semi:
			at++
		case api.At:
			end := s.end(at, to)
			if end < 0 {
				return decls, margins
			}
			if paged && s.isMargin(at, end) {
				margins = append(margins, s.margin(at, end))
			}
			at = nest.Skip(s.ends, end)
		default:
			end := s.semi(at, to)
			if d, is := s.decl(at, end); is {
				decls = append(decls, d)
			}
			at = end
		}
	}
	return decls, margins
}

// isMargin tells whether a margin rule begins at a place, where end is its block, if it has one.
func (s sheet) isMargin(at, end int) bool {
	from, to := nest.Trim(s.list, at+1, end)
	return opensBlock(s.list[end]) && Box(s.name(at)) >= 0 && from == to
}

// margin is the margin rule that begins at a place.
func (s sheet) margin(at, open int) api.Margin {
	decls, _ := s.block(open, false)
	return api.Margin{Name: s.name(at), Decls: decls}
}

// semi is where the first Semi stands; to, if there is none.
func (s sheet) semi(at, to int) int {
	found := nest.Find(s.list, s.ends, at, to, isSemi)
	if found < 0 {
		return to
	}
	return found
}

// decl is the declaration of these places, of which there is one at least.
func (s sheet) decl(from, to int) (api.Decl, bool) {
	colon, _ := nest.Trim(s.list, from+1, to)
	if s.list[from].Kind != api.Ident || colon == to || s.list[colon].Kind != api.Colon {
		return api.Decl{}, false
	}
	value := s.part(nest.Trim(s.list, colon+1, to))
	marked := marking(value)
	if marked >= 0 {
		_, end := nest.Trim(value, 0, marked)
		value = part(value, 0, end)
	}
	if !Sound(value) {
		return api.Decl{}, false
	}
	return api.Decl{Name: s.name(from), Value: value, Important: marked >= 0}, true
}

// name is the name of the token at a place, as it is compared and told.
func (s sheet) name(at int) string {
	return runes.Lower(s.list[at].Text)
}

// part is a copy of the tokens of these places.
func (s sheet) part(from, to int) []api.Token {
	return part(s.list, from, to)
}

// part is a copy of these places of a list: a rule's lists share nothing.
func part(l []api.Token, from, to int) []api.Token {
	return append([]api.Token(nil), l[from:to]...)
}

// ending tells, by the kind of a rule's first token, what ends all that stands ahead of its block.
func ending(first int) func(t api.Token) bool {
	return func(t api.Token) bool {
		return opensBlock(t) || first == api.At && isSemi(t)
	}
}

// opensBlock tells whether a token opens a block.
func opensBlock(t api.Token) bool {
	return t.Kind == api.Open && t.Text == "{"
}

// isSemi tells whether a token is a Semi.
func isSemi(t api.Token) bool {
	return t.Kind == api.Semi
}

// marking is where the Delim ! stands that makes a value, without Space at its end, important; -1, if there is none.
func marking(value []api.Token) int {
	last := len(value) - 1
	if last < 1 || value[last].Kind != api.Ident || runes.Lower(value[last].Text) != important {
		return -1
	}
	_, behind := nest.Trim(value, 0, last)
	if behind == 0 || value[behind-1].Kind != api.Delim || value[behind-1].Text != mark {
		return -1
	}
	return behind - 1
}
