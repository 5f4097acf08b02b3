package sels

import (
	"slices"

	"winnowing/api"
	"winnowing/ascii"
	"winnowing/toks"
)

// May reports whether l is valid, that is, whether it is read from some text.
func May(l []api.Complex) bool {
	return 1 <= len(l) && len(l) <= api.MaxList && all(l, validComplex)
}

func all[T any](l []T, holds func(T) bool) bool {
	return !slices.ContainsFunc(l, func(x T) bool { return !holds(x) })
}

func validComplex(c api.Complex) bool {
	if len(c.Parts) < 1 || len(c.Parts) > api.MaxParts || c.Pseudo != "" && !isPseudo(c.Pseudo) {
		return false
	}
	last := len(c.Parts) - 1
	for i, p := range c.Parts {
		mayBeEmpty := i == last && c.Pseudo != ""
		if !validComb(p.Comb, i == 0) || !validCompound(p.L, mayBeEmpty) {
			return false
		}
	}
	return true
}

func validComb(comb int, first bool) bool {
	if first {
		return comb == api.CombNone
	}
	return api.CombIn <= comb && comb <= api.CombLater
}

func validCompound(l []api.Simple, mayBeEmpty bool) bool {
	if len(l) == 0 {
		return mayBeEmpty
	}
	return len(l) <= api.MaxSimple && validSimple(l[0]) && all(l[1:], validLater)
}

// validLater is for the simple selectors behind the first one, which say nothing of the element's name.
func validLater(x api.Simple) bool {
	return x.Kind != api.SimAny && x.Kind != api.SimTag && validSimple(x)
}

func validSimple(x api.Simple) bool {
	if x.Kind != api.SimNot {
		return validPlain(x)
	}
	return len(x.L) == 1 && validPlain(x.L[0]) && sameSimple(x, api.Simple{Kind: api.SimNot, L: x.L})
}

// validPlain is for the simple selectors that may stand in a not.
func validPlain(x api.Simple) bool {
	return sameSimple(x, meantOf(x)) && validFields(x)
}

// meantOf returns x with those fields alone that its kind gives a meaning.
func meantOf(x api.Simple) api.Simple {
	meant := api.Simple{Kind: x.Kind}
	switch x.Kind {
	case api.SimTag, api.SimID, api.SimClass, api.SimHas, api.SimState:
		meant.Name = x.Name
	case api.SimIs:
		meant.Name, meant.Value = x.Name, x.Value
	case api.SimNth:
		meant.A, meant.B = x.A, x.B
	}
	return meant
}

func validFields(x api.Simple) bool {
	switch x.Kind {
	case api.SimAny, api.SimRoot, api.SimEmpty:
		return true
	case api.SimTag:
		return isName(x.Name) && ascii.Lower(x.Name) == x.Name
	case api.SimID:
		return toks.May(api.Token{Kind: api.TokHash, Text: x.Name})
	case api.SimClass, api.SimHas:
		return isName(x.Name)
	case api.SimIs:
		return isName(x.Name) && isStringText(x.Value)
	case api.SimState:
		return isState(x.Name)
	case api.SimNth:
		return inNthLimit(x.A) && inNthLimit(x.B)
	}
	return false
}

func isName(s string) bool {
	return toks.May(api.Token{Kind: api.TokIdent, Text: s})
}

// isStringText reports whether some quotes can stand around s.
func isStringText(s string) bool {
	return isQuoted(s, '"') || isQuoted(s, '\'')
}

func isQuoted(s string, quote int) bool {
	return toks.May(api.Token{Kind: api.TokStr, Text: s, N: quote})
}

// Same reports whether a and b are equal, with all that stands in them.
func Same(a, b []api.Complex) bool {
	return slices.EqualFunc(a, b, sameComplex)
}

func sameComplex(a, b api.Complex) bool {
	return a.Pseudo == b.Pseudo && slices.EqualFunc(a.Parts, b.Parts, samePart)
}

func samePart(a, b api.Part) bool {
	return a.Comb == b.Comb && slices.EqualFunc(a.L, b.L, sameSimple)
}

func sameSimple(a, b api.Simple) bool {
	return a.Kind == b.Kind && a.Name == b.Name && a.Value == b.Value && a.A == b.A && a.B == b.B &&
		slices.EqualFunc(a.L, b.L, sameSimple)
}
