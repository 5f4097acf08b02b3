package sheet

import (
	"winnowing/api"
	"winnowing/ascii"
	"winnowing/split"
)

// widths returns the Min and the Max of the conditions that a prelude consists of, if it does.
func widths(prelude []api.Val) (int, int, bool) {
	least, most := 0, noWidth
	words := split.Words(prelude)
	if len(words)%2 == 0 {
		return 0, 0, false
	}
	for i, word := range words {
		if i%2 > 0 {
			if name, ok := onlyName(word); !ok || ascii.Lower(name) != and {
				return 0, 0, false
			}
			continue
		}
		feature, width := condition(word)
		switch {
		case feature == minWidth:
			least = max(least, width)
		case feature == maxWidth && most == noWidth:
			most = width
		case feature == maxWidth:
			most = min(most, width)
		default:
			return 0, 0, false
		}
	}
	return least, most, true
}

// condition returns the feature and the width that a word asks for, and no feature if it is no condition.
func condition(word []api.Val) (string, int) {
	if len(word) != 1 || word[0].Kind != api.ValRound {
		return "", 0
	}
	sides := split.At(word[0].L, ":")
	if len(sides) != 2 {
		return "", 0
	}
	feature, isName := onlyName(sides[0])
	width, isNumber := only(sides[1], api.TokNum)
	if !isName || !isNumber || width.Text != pixels || !isWidth(width.N) {
		return "", 0
	}
	return feature, width.N
}

func isWidth(n int) bool {
	return 0 <= n && n <= api.MaxWidth
}

// nameList returns the names of layers that a prelude is a list of, if it is one.
func nameList(prelude []api.Val) ([]string, bool) {
	parts := split.At(prelude, ",")
	if len(parts) > api.MaxNames {
		return nil, false
	}
	names := make([]string, len(parts))
	for i, part := range parts {
		name, ok := onlyName(part)
		if !ok {
			return nil, false
		}
		names[i] = name
	}
	return names, true
}

// onlyName returns the name that l is, but for the blanks around it, if it is one.
func onlyName(l []api.Val) (string, bool) {
	t, ok := only(l, api.TokIdent)
	return t.Text, ok && t.Text != ""
}

// only returns the token of that kind that l is, but for the blanks around it, if it is one.
func only(l []api.Val, kind int) (api.Token, bool) {
	l = split.Trim(l)
	if len(l) != 1 || !isToken(l[0], kind) {
		return api.Token{}, false
	}
	return l[0].Tok, true
}
