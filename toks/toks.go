// Package toks is layer 1, the lexer of style sheets: see shared/doc/01-toks.md.
package toks

import (
	"strconv"
	"strings"

	"winnowing/api"
)

// Comments that keep tokens apart: emptyComment two tokens that would be read as others,
// lineComment a lone quote from a second one, which a line end between them rules out.
const (
	emptyComment = "/**/"
	lineComment  = "/*\n*/"
)

// All returns the tokens of s, in order.
func All(s string) []api.Token {
	var l []api.Token
	scan := newScanner(s)
	for {
		t, ok := scan.next()
		if !ok {
			return l
		}
		l = append(l, t)
	}
}

// One returns the text of a token, and nothing for a kind that there is not.
func One(t api.Token) string {
	switch t.Kind {
	case api.TokIdent:
		return t.Text
	case api.TokFunc:
		return t.Text + "("
	case api.TokAt:
		return "@" + t.Text
	case api.TokHash:
		return "#" + t.Text
	case api.TokNum:
		return strconv.Itoa(t.N) + t.Text
	case api.TokStr:
		return quotedText(t)
	case api.TokDelim:
		return delimText(t)
	case api.TokWhite:
		return "\n"
	}
	return ""
}

func quotedText(t api.Token) string {
	if t.N == '\'' {
		return "'" + t.Text + "'"
	}
	return `"` + t.Text + `"`
}

func delimText(t api.Token) string {
	if t.Text == `"` || t.Text == "'" {
		return t.Text + lineComment
	}
	return t.Text
}

// May reports whether t is valid: whether it is read back from its own text.
func May(t api.Token) bool {
	return reads(One(t), t)
}

// Text returns the text of l, from which a list of valid tokens is read back.
func Text(l []api.Token) string {
	var b strings.Builder
	before := ""
	for i, t := range l {
		own := One(t)
		if i > 0 && apart(before+own, l[i-1], t) {
			b.WriteString(emptyComment)
		}
		b.WriteString(own)
		before = own
	}
	return b.String()
}

// apart reports whether a and b, of which joined is the text, need a comment between them:
// also where they are `</`, so that no sheet can close the style element around it.
func apart(joined string, a, b api.Token) bool {
	return isDelim(a, "<") && isDelim(b, "/") || !reads(joined, a, b)
}

func isDelim(t api.Token, sign string) bool {
	return t.Kind == api.TokDelim && t.Text == sign
}

// reads reports whether the tokens of s are exactly those wanted.
// It stops at the first one that differs, so that the rest of a long text costs nothing.
func reads(s string, wanted ...api.Token) bool {
	scan := newScanner(s)
	for _, w := range wanted {
		if t, ok := scan.next(); !ok || t != w {
			return false
		}
	}
	_, more := scan.next()
	return !more
}
