package sheet

import (
	"slices"

	"winnowing/api"
	"winnowing/decls"
	"winnowing/nest"
	"winnowing/sels"
	"winnowing/split"
	"winnowing/toks"
)

// validIn reports whether the items of l are valid, and may stand at that place.
func validIn(l []api.Item, place int) bool {
	return all(l, func(x api.Item) bool { return allowed(x.Kind, place) && isPlain(x) && isValid(x) })
}

func all[T any](l []T, holds func(T) bool) bool {
	return !slices.ContainsFunc(l, func(x T) bool { return !holds(x) })
}

// isPlain reports whether those fields are empty that an item of x's kind does not have.
func isPlain(x api.Item) bool {
	switch x.Kind {
	case api.ItemRule:
		x.Sels, x.Decls = nil, nil
	case api.ItemMedia:
		x.Min, x.Max, x.L = 0, 0, nil
	case api.ItemLayer:
		x.Names, x.L = nil, nil
	case api.ItemNames:
		x.Names = nil
	case api.ItemFrames:
		x.Names, x.Vals = nil, nil
	case api.ItemFont:
		x.Decls = nil
	}
	return Same([]api.Item{x}, []api.Item{{Kind: x.Kind}})
}

// isValid asks of the fields that an item of x's kind has.
func isValid(x api.Item) bool {
	switch x.Kind {
	case api.ItemRule:
		return sels.May(x.Sels) && validDecls(x.Decls)
	case api.ItemMedia:
		return isWidth(x.Min) && (x.Max == noWidth || isWidth(x.Max)) && len(x.L) > 0 && validIn(x.L, inMedia)
	case api.ItemLayer:
		return validNames(x.Names, 1) && validIn(x.L, inLayer)
	case api.ItemNames:
		return validNames(x.Names, api.MaxNames)
	case api.ItemFrames:
		return validNames(x.Names, 1) && validFrames(x.Vals)
	case api.ItemFont:
		return validDecls(x.Decls)
	}
	return false
}

func validNames(l []string, most int) bool {
	return 1 <= len(l) && len(l) <= most && all(l, func(name string) bool { return toks.May(ident(name)) })
}

func validDecls(l []api.Decl) bool {
	return len(l) > 0 && decls.May(l) && all(l, func(d api.Decl) bool { return staysInside(d.L) })
}

func validFrames(l []api.Val) bool {
	trimmed := len(split.Trim(l)) == len(l)
	return trimmed && nest.Depth(l) <= api.MaxValue && staysInside(l) && nest.May(l)
}

// staysInside reports whether a block around l does not end within it.
func staysInside(l []api.Val) bool {
	return all(l, func(v api.Val) bool { return !isDelim(v, "}") })
}
