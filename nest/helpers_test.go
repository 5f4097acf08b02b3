package nest_test

import (
	"fmt"
	"math"
	"strings"
	"testing"

	"winnowing/api"
	"winnowing/nest"
	"winnowing/toks"
)

func ident(name string) api.Token    { return api.Token{Kind: api.TokIdent, Text: name} }
func function(name string) api.Token { return api.Token{Kind: api.TokFunc, Text: name} }
func delim(sign string) api.Token    { return api.Token{Kind: api.TokDelim, Text: sign} }

func tok(t api.Token) api.Val           { return api.Val{Kind: api.ValTok, Tok: t} }
func name(s string) api.Val             { return tok(ident(s)) }
func sign(s string) api.Val             { return tok(delim(s)) }
func round(l ...api.Val) api.Val        { return api.Val{Kind: api.ValRound, L: l} }
func square(l ...api.Val) api.Val       { return api.Val{Kind: api.ValSquare, L: l} }
func curly(l ...api.Val) api.Val        { return api.Val{Kind: api.ValCurly, L: l} }
func fn(s string, l ...api.Val) api.Val { return api.Val{Kind: api.ValFunc, Tok: function(s), L: l} }

var white = tok(api.Token{Kind: api.TokWhite, Text: "\n"})

func list(l ...api.Val) []api.Val { return l }

// tell writes every field of values, so that two lists are equal just if they are told alike.
// It is written apart from Same, which it tests. Empty and nil lists are told alike.
func tell(l []api.Val) string {
	var b strings.Builder
	for _, v := range l {
		fmt.Fprintf(&b, "%d %d %q %d [%s],", v.Kind, v.Tok.Kind, v.Tok.Text, v.Tok.N, tell(v.L))
	}
	return b.String()
}

func parsed(t *testing.T, s string) []api.Val {
	t.Helper()
	l, err := nest.Parse(toks.All(s), api.MaxDeep)
	if err != api.OK {
		t.Fatalf("Parse(%q): error %d", s, err)
	}
	return l
}

// nested is blocks of one kind, each but the innermost with the next one in it.
func nested(kind, depth int) []api.Val {
	var l []api.Val
	for range depth {
		v := api.Val{Kind: kind, L: l}
		if kind == api.ValFunc {
			v.Tok = function("f")
		}
		l = list(v)
	}
	return l
}

// eachTokens goes through all lists of tokens of an alphabet, up to a length.
func eachTokens(alphabet []api.Token, length int, do func([]api.Token)) {
	l := make([]api.Token, 0, length)
	var grow func()
	grow = func() {
		do(l)
		if len(l) == length {
			return
		}
		for _, t := range alphabet {
			l = append(l, t)
			grow()
			l = l[:len(l)-1]
		}
	}
	grow()
}

// chance is a source of numbers that are the same in every run.
type chance uint64

func (c *chance) below(n int) int {
	*c = *c*6364136223846793005 + 1442695040888963407
	return int(*c>>33) % n
}

// wildTokens: every kind and none, with numbers and texts in and out of bounds.
func wildTokens() []api.Token {
	var l []api.Token
	for _, kind := range []int{math.MinInt, -1, 0, 1, 2, 3, 4, 5, 6, 7, 8, 9, math.MaxInt} {
		for _, n := range []int{math.MinInt, -1, 0, 1, 39, math.MaxInt} {
			for _, s := range []string{"", "a", "(", ")", "[", "]", "{", "}", "()", "'", "\n", "\xff"} {
				l = append(l, api.Token{Kind: kind, Text: s, N: n})
			}
		}
	}
	return l
}

// wild makes values that nobody chose, out of its tokens.
type wild struct {
	chance
	tokens []api.Token
}

func newWild(seed chance) *wild { return &wild{seed, wildTokens()} }

// vals: every kind and none, with any token, and with any values in it, to a depth.
func (w *wild) vals(depth int) []api.Val {
	kinds := []int{math.MinInt, -1, 0, 1, 1, 2, 3, 4, 5, 6, math.MaxInt}
	l := make([]api.Val, w.below(5))
	for i := range l {
		l[i].Kind = kinds[w.below(len(kinds))]
		if w.below(2) == 0 {
			l[i].Tok = w.tokens[w.below(len(w.tokens))]
		}
		if depth > 0 && w.below(3) > 0 {
			l[i].L = w.vals(depth - 1)
		}
	}
	return l
}
