package sheet

import (
	"winnowing/api"
	"winnowing/decls"
	"winnowing/spell"
	"winnowing/split"
)

// list is values, of which no other list has the memory.
type list []api.Val

func (l *list) add(v ...api.Val) {
	*l = append(*l, v...)
}

func (l *list) tokens(t ...api.Token) {
	for _, x := range t {
		l.add(api.Val{Kind: api.ValTok, Tok: x})
	}
}

func (l *list) block(kind int, inner []api.Val) {
	l.add(api.Val{Kind: kind, L: inner})
}

// writer writes the values of items.
type writer struct {
	list
}

func (w *writer) item(x api.Item) {
	switch x.Kind {
	case api.ItemRule:
		w.selectors(x.Sels)
		w.block(api.ValCurly, decls.Vals(x.Decls...))
	case api.ItemMedia:
		w.tokens(at(mediaName), blank())
		w.conditions(x.Min, x.Max)
		w.block(api.ValCurly, Vals(x.L...))
	case api.ItemLayer:
		w.tokens(at(layerName), blank())
		w.names(x.Names)
		w.block(api.ValCurly, Vals(x.L...))
	case api.ItemNames:
		w.tokens(at(layerName), blank())
		w.names(x.Names)
		w.tokens(delim(";"))
	case api.ItemFrames:
		w.tokens(at(framesName), blank())
		w.names(x.Names)
		w.block(api.ValCurly, copyOf(x.Vals))
	case api.ItemFont:
		w.tokens(at(fontName))
		w.block(api.ValCurly, decls.Vals(x.Decls...))
	}
}

// selectors writes nothing for selectors whose text cannot be read: only those that are not valid have such a text.
func (w *writer) selectors(l []api.Complex) {
	if v, err := split.Read(spell.List(l)); err == api.OK {
		w.add(v...)
	}
}

// conditions writes a least width of 0 only where there is no greatest one: without any condition, it would be no media block.
func (w *writer) conditions(least, most int) {
	hasLeast, hasMost := least > 0 || most < 0, most >= 0
	if hasLeast {
		w.condition(minWidth, least)
	}
	if hasLeast && hasMost {
		w.tokens(blank(), ident(and), blank())
	}
	if hasMost {
		w.condition(maxWidth, most)
	}
}

func (w *writer) condition(feature string, n int) {
	var inner list
	inner.tokens(ident(feature), delim(":"), inPixels(n))
	w.block(api.ValRound, inner)
}

func (w *writer) names(l []string) {
	for i, name := range l {
		if i > 0 {
			w.tokens(delim(","))
		}
		w.tokens(ident(name))
	}
}

// copyOf makes use of that a joined list is a new one.
func copyOf(l []api.Val) []api.Val {
	return split.Join([][]api.Val{l}, "")
}
