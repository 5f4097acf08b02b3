package sheet

import "winnowing/api"

// The words that are both parsed and printed.
const (
	mediaName  = "media"
	layerName  = "layer"
	framesName = "keyframes"
	fontName   = "font-face"

	minWidth = "min-width"
	maxWidth = "max-width"
	pixels   = "px"
	and      = "and"
)

func isToken(v api.Val, kind int) bool {
	return v.Kind == api.ValTok && v.Tok.Kind == kind
}

func isDelim(v api.Val, sign string) bool {
	return v.Kind == api.ValTok && v.Tok == delim(sign)
}

func ident(name string) api.Token {
	return api.Token{Kind: api.TokIdent, Text: name}
}

func at(name string) api.Token {
	return api.Token{Kind: api.TokAt, Text: name}
}

func delim(sign string) api.Token {
	return api.Token{Kind: api.TokDelim, Text: sign}
}

func inPixels(n int) api.Token {
	return api.Token{Kind: api.TokNum, Text: pixels, N: n}
}

func blank() api.Token {
	return api.Token{Kind: api.TokWhite, Text: "\n"}
}
