package sels

import (
	"winnowing/api"
	"winnowing/ascii"
)

// simple reads a simple selector, if one comes next.
func (r *reader) simple(first bool) (api.Simple, bool) {
	if first {
		if x, ok := r.element(); ok {
			return x, true
		}
	}
	if id, ok := r.token(api.TokHash); ok {
		return api.Simple{Kind: api.SimID, Name: id.Text}, true
	}
	if r.delims(".") {
		return api.Simple{Kind: api.SimClass, Name: r.name()}, true
	}
	if square, ok := r.value(api.ValSquare); ok {
		return attribute(square.L), true
	}
	if r.seesDelims(":", ":") || !r.delims(":") {
		return api.Simple{}, false
	}
	return r.pseudoClass(), true
}

// element reads what may stand only at the beginning of a compound selector.
func (r *reader) element() (api.Simple, bool) {
	if r.delims("*") {
		return api.Simple{Kind: api.SimAny}, true
	}
	if t, ok := r.token(api.TokIdent); ok {
		return api.Simple{Kind: api.SimTag, Name: ascii.Lower(t.Text)}, true
	}
	return api.Simple{}, false
}

// attribute returns the selector that a square block with the values l is.
func attribute(l []api.Val) api.Simple {
	var x api.Simple
	whole(l, func(r *reader) {
		x = api.Simple{Kind: api.SimHas, Name: r.name()}
		r.blanks()
		if r.delims("=") {
			r.blanks()
			x.Kind, x.Value = api.SimIs, r.attributeValue()
		}
	})
	return x
}

func (r *reader) attributeValue() string {
	if t, ok := r.token(api.TokStr); ok {
		return t.Text
	}
	return r.name()
}

// pseudoClass reads what must stand behind a colon.
func (r *reader) pseudoClass() api.Simple {
	if f, ok := r.value(api.ValFunc); ok {
		return r.function(f)
	}
	name := r.name()
	switch name {
	case "root":
		return api.Simple{Kind: api.SimRoot}
	case "empty":
		return api.Simple{Kind: api.SimEmpty}
	case "first-child":
		return api.Simple{Kind: api.SimNth, B: 1}
	}
	demand(isState(name))
	return api.Simple{Kind: api.SimState, Name: name}
}

func isState(name string) bool {
	switch name {
	case "hover", "focus", "active", "checked":
		return true
	}
	return false
}

func (r *reader) function(f api.Val) api.Simple {
	if f.Tok.Text == "nth-child" {
		a, b := nth(f.L)
		return api.Simple{Kind: api.SimNth, A: a, B: b}
	}
	demand(f.Tok.Text == "not" && !r.plain)
	return api.Simple{Kind: api.SimNot, L: []api.Simple{inNot(f.L)}}
}

// inNot returns the one simple selector that the values of a not are.
func inNot(l []api.Val) api.Simple {
	var x api.Simple
	whole(l, func(r *reader) {
		r.plain = true
		only, ok := r.simple(true)
		demand(ok)
		x = only
	})
	return x
}
