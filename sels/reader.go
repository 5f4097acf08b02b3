package sels

import "winnowing/api"

// invalid is what a reader panics with at values that are no selector.
type invalid struct{}

func demand(holds bool) {
	if !holds {
		panic(invalid{})
	}
}

// reader reads the values that are left, of which each is taken once.
type reader struct {
	rest []api.Val
	// plain is set inside a not, where another one must not stand.
	plain bool
}

// whole has read consume all values of l but the blanks around them.
func whole(l []api.Val, read func(*reader)) {
	r := &reader{rest: l}
	r.blanks()
	read(r)
	r.blanks()
	demand(r.ended())
}

func (r *reader) ended() bool {
	return len(r.rest) == 0
}

// blanks consumes the blanks that come next, and reports whether there were any.
func (r *reader) blanks() bool {
	before := len(r.rest)
	for r.sees(api.ValTok) && r.rest[0].Tok.Kind == api.TokWhite {
		r.rest = r.rest[1:]
	}
	return len(r.rest) < before
}

// sees reports whether a value of that kind comes next.
func (r *reader) sees(kind int) bool {
	return !r.ended() && r.rest[0].Kind == kind
}

// value consumes a value of that kind, if one comes next.
func (r *reader) value(kind int) (api.Val, bool) {
	if !r.sees(kind) {
		return api.Val{}, false
	}
	v := r.rest[0]
	r.rest = r.rest[1:]
	return v, true
}

// token consumes a token of that kind, if one comes next.
func (r *reader) token(kind int) (api.Token, bool) {
	if !r.sees(api.ValTok) || r.rest[0].Tok.Kind != kind {
		return api.Token{}, false
	}
	t := r.rest[0].Tok
	r.rest = r.rest[1:]
	return t, true
}

// name consumes a name, which must come next.
func (r *reader) name() string {
	t, ok := r.token(api.TokIdent)
	demand(ok)
	return t.Text
}

// seesDelims reports whether the delimiters come next, all of them, in their order.
func (r *reader) seesDelims(delims ...string) bool {
	if len(r.rest) < len(delims) {
		return false
	}
	for i, d := range delims {
		if !isDelim(r.rest[i], d) {
			return false
		}
	}
	return true
}

// delims consumes the delimiters, if they come next, all of them, in their order.
func (r *reader) delims(delims ...string) bool {
	if !r.seesDelims(delims...) {
		return false
	}
	r.rest = r.rest[len(delims):]
	return true
}

func isDelim(v api.Val, text string) bool {
	return v.Kind == api.ValTok && v.Tok == api.Token{Kind: api.TokDelim, Text: text}
}
