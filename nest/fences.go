package nest

import "winnowing/api"

// fence is the two bytes around a block, as tokens have them in their texts.
type fence struct {
	open string
	shut string
}

// fences returns the bytes around blocks, by the blocks' kinds.
// A function's block has no opening byte of its own here, because that belongs to its TokFunc.
func fences() map[int]fence {
	return map[int]fence{
		api.ValRound:  {open: "(", shut: ")"},
		api.ValSquare: {open: "[", shut: "]"},
		api.ValCurly:  {open: "{", shut: "}"},
		api.ValFunc:   {shut: ")"},
	}
}

func delim(sign string) api.Token {
	return api.Token{Kind: api.TokDelim, Text: sign}
}

// appendFlat writes into one list throughout, so that the time does not grow with the depth.
func appendFlat(flat []api.Token, l []api.Val, around map[int]fence) []api.Token {
	for _, v := range l {
		if v.Kind == api.ValTok {
			flat = append(flat, v.Tok)
			continue
		}
		f, ok := around[v.Kind]
		if !ok {
			continue
		}
		flat = append(flat, openingToken(v, f))
		flat = appendFlat(flat, v.L, around)
		flat = append(flat, delim(f.shut))
	}
	return flat
}

func openingToken(v api.Val, f fence) api.Token {
	if v.Kind == api.ValFunc {
		return v.Tok
	}
	return delim(f.open)
}
