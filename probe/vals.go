// Package probe makes tokens, values, selectors, declarations, items and tags for the tests of the layers. The program itself does not call it.
package probe

import (
	"strconv"
	"strings"

	"winnowing/api"
)

func Ident(name string) api.Token    { return api.Token{Kind: api.TokIdent, Text: name} }
func Function(name string) api.Token { return api.Token{Kind: api.TokFunc, Text: name} }
func Delim(sign string) api.Token    { return api.Token{Kind: api.TokDelim, Text: sign} }

func Tok(t api.Token) api.Val           { return api.Val{Kind: api.ValTok, Tok: t} }
func Name(s string) api.Val             { return Tok(Ident(s)) }
func Sign(s string) api.Val             { return Tok(Delim(s)) }
func White() api.Val                    { return Tok(api.Token{Kind: api.TokWhite, Text: "\n"}) }
func Round(l ...api.Val) api.Val        { return api.Val{Kind: api.ValRound, L: l} }
func Square(l ...api.Val) api.Val       { return api.Val{Kind: api.ValSquare, L: l} }
func Curly(l ...api.Val) api.Val        { return api.Val{Kind: api.ValCurly, L: l} }
func Fn(s string, l ...api.Val) api.Val { return api.Val{Kind: api.ValFunc, Tok: Function(s), L: l} }

func List(l ...api.Val) []api.Val { return l }

// Nested is blocks of one kind, each but the innermost with the next one in it.
func Nested(kind, depth int) []api.Val {
	var l []api.Val
	for range depth {
		v := api.Val{Kind: kind, L: l}
		if kind == api.ValFunc {
			v.Tok = Function("f")
		}
		l = List(v)
	}
	return l
}

// Tell writes every field of values, so that two lists are equal just if they are told alike.
// It is written apart from nest.Same, which it tests. Empty and nil lists are told alike.
func Tell(l []api.Val) string {
	var b strings.Builder
	tellInto(&b, l)
	return b.String()
}

func tellInto(b *strings.Builder, l []api.Val) {
	for _, v := range l {
		b.WriteString(strconv.Itoa(v.Kind) + " " + strconv.Itoa(v.Tok.Kind) + " ")
		b.WriteString(strconv.Quote(v.Tok.Text) + " " + strconv.Itoa(v.Tok.N) + " [")
		tellInto(b, v.L)
		b.WriteString("],")
	}
}

// TellAll writes lists of values, each on a line of its own.
func TellAll(l [][]api.Val) string {
	var b strings.Builder
	for _, part := range l {
		tellInto(&b, part)
		b.WriteString("\n")
	}
	return b.String()
}

// Overwrite clears every value, so that whoever shares memory with l is told differently.
func Overwrite(l []api.Val) {
	for i := range l {
		Overwrite(l[i].L)
		l[i] = api.Val{}
	}
}

// WriteBehind writes behind the end of each list, where another one must not lie.
func WriteBehind(l []api.Val) {
	_ = append(l, Name("x"), Name("y"))
	for _, v := range l {
		WriteBehind(v.L)
	}
}
