package sheet

import (
	"slices"

	"winnowing/api"
	"winnowing/ascii"
)

// reader reads the values that are left, of which each is taken once.
type reader struct {
	rest []api.Val
}

// itemsIn returns those items of l that may stand at that place.
func itemsIn(l []api.Val, place int) []api.Item {
	var items []api.Item
	r := reader{rest: l}
	for {
		s := r.statement()
		if s == nil {
			return items
		}
		if x, ok := s.item(); ok && allowed(x.Kind, place) {
			items = append(items, x)
		}
	}
}

// statement reads the next statement, and returns nil if there is none.
func (r *reader) statement() *statement {
	for len(r.rest) > 0 && isToken(r.rest[0], api.TokWhite) {
		r.rest = r.rest[1:]
	}
	if len(r.rest) == 0 {
		return nil
	}
	first := r.rest[0]
	if !isToken(first, api.TokAt) {
		return r.upTo(rule, endsAt())
	}
	r.rest = r.rest[1:]
	return r.upTo(atRule+ascii.Lower(first.Tok.Text), endsAt(";"))
}

// upTo reads a prelude, and what ends it.
func (r *reader) upTo(kind string, isEnd func(api.Val) bool) *statement {
	s := &statement{kind: kind, prelude: r.rest}
	end := slices.IndexFunc(r.rest, isEnd)
	if end < 0 {
		r.rest = nil
		return s
	}
	s.prelude = r.rest[:end]
	if last := r.rest[end]; last.Kind == api.ValCurly {
		s.hasBlock, s.block = true, last.L
	}
	r.rest = r.rest[end+1:]
	return s
}

// endsAt returns the predicate of what ends a prelude: a block, or one of the delimiters.
func endsAt(signs ...string) func(api.Val) bool {
	return func(v api.Val) bool {
		return v.Kind == api.ValCurly || slices.ContainsFunc(signs, func(sign string) bool { return isDelim(v, sign) })
	}
}
