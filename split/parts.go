package split

import (
	"iter"
	"slices"

	"winnowing/api"
)

// parts produces the pieces of l between the values that cut holds for, in order.
// They are pieces of l itself: who hands one out copies it first.
func parts(l []api.Val, cut func(api.Val) bool) iter.Seq[[]api.Val] {
	return func(yield func([]api.Val) bool) {
		start := 0
		for i, v := range l {
			if !cut(v) {
				continue
			}
			if !yield(l[start:i]) {
				return
			}
			start = i + 1
		}
		yield(l[start:])
	}
}

// sameToken returns the predicate of being a ValTok of wanted's token.
// It leaves aside the values in a ValTok, which is no block.
func sameToken(wanted api.Val) func(api.Val) bool {
	return func(v api.Val) bool {
		return v.Kind == api.ValTok && v.Tok == wanted.Tok
	}
}

func isBlank(v api.Val) bool {
	return v.Kind == api.ValTok && v.Tok.Kind == api.TokWhite
}

func delimiter(sign string) api.Val {
	return api.Val{Kind: api.ValTok, Tok: api.Token{Kind: api.TokDelim, Text: sign}}
}

// appendCopy copies the blocks of l too, so that no result shares memory with an argument.
func appendCopy(to, l []api.Val) []api.Val {
	to = slices.Grow(to, len(l))
	for _, v := range l {
		v.L = appendCopy(nil, v.L)
		to = append(to, v)
	}
	return to
}
