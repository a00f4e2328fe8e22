package rules

import (
	"broadside/api"
	"broadside/nest"
	"broadside/print"
	"broadside/runes"
)

// writer gathers tokens, no more of them than a sheet may have, and with no more text: beyond that they are not needed.
type writer struct {
	list  []api.Token
	bytes int
	over  bool
}

// written is what rules are as tokens.
func written(l []api.Rule) *writer {
	w := &writer{}
	for _, r := range l {
		w.rule(r)
	}
	return w
}

// add adds tokens.
func (w *writer) add(l ...api.Token) {
	w.over = w.over || len(w.list)+len(l) > api.MaxTokens
	if w.over {
		return
	}
	for _, t := range l {
		w.bytes += len(t.Text) // its printed text is no shorter
	}
	w.over = w.bytes > api.MaxBytes
	w.list = append(w.list, l...)
}

// rule adds a rule.
func (w *writer) rule(r api.Rule) {
	if r.Kind == api.PageRule {
		w.add(api.Token{Kind: api.At, Text: pageName}, api.Token{Kind: api.Space})
	}
	w.add(r.Prelude...)
	w.open()
	w.decls(r.Decls)
	for _, m := range r.Margins {
		w.add(api.Token{Kind: api.At, Text: m.Name})
		w.open()
		w.decls(m.Decls)
		w.close()
	}
	w.close()
}

// decls adds declarations.
func (w *writer) decls(l []api.Decl) {
	for _, d := range l {
		w.add(api.Token{Kind: api.Ident, Text: d.Name}, api.Token{Kind: api.Colon})
		w.add(d.Value...)
		if d.Important {
			w.add(api.Token{Kind: api.Delim, Text: mark}, api.Token{Kind: api.Ident, Text: important})
		}
		w.add(api.Token{Kind: api.Semi})
	}
}

// open adds what opens a block.
func (w *writer) open() {
	w.add(api.Token{Kind: api.Open, Text: "{"})
}

// close adds what closes a block.
func (w *writer) close() {
	w.add(api.Token{Kind: api.Close, Text: "}"})
}

// rightRule tells whether a rule may be.
func rightRule(r api.Rule) bool {
	switch r.Kind {
	case api.StyleRule:
		return rightStyle(r.Prelude) && rightDecls(r.Decls) && len(r.Margins) == 0
	case api.PageRule:
		return rightPart(r.Prelude, ending(api.At)) && rightDecls(r.Decls) && rightMargins(r.Margins)
	}
	return false
}

// rightStyle tells whether a style rule's prelude may be.
func rightStyle(prelude []api.Token) bool {
	if len(prelude) == 0 {
		return true
	}
	first := prelude[0].Kind
	return first != api.At && rightPart(prelude, ending(first))
}

// rightMargins tells whether a page rule's margin rules may be.
func rightMargins(l []api.Margin) bool {
	for _, m := range l {
		if Box(m.Name) < 0 || !small(m.Name) || !rightDecls(m.Decls) {
			return false
		}
	}
	return true
}

// rightDecls tells whether declarations may be.
func rightDecls(l []api.Decl) bool {
	for _, d := range l {
		if !rightName(d.Name) || !rightPart(d.Value, isSemi) || !d.Important && marking(d.Value) >= 0 {
			return false
		}
	}
	return true
}

// rightName tells whether a text may be a declaration's name.
func rightName(name string) bool {
	return small(name) && print.Right([]api.Token{{Kind: api.Ident, Text: name}})
}

// small tells whether a name is in small letters.
func small(name string) bool {
	return runes.Lower(name) == name
}

// rightPart tells whether tokens may stand as a part of their own: nothing of them may go beyond the part, nor end it.
func rightPart(l []api.Token, ends func(t api.Token) bool) bool {
	if from, to := nest.Trim(l, 0, len(l)); to-from < len(l) || !Sound(l) {
		return false
	}
	places, _ := nest.Ends(l)
	return nest.Find(l, places, 0, len(l), ends) < 0
}
