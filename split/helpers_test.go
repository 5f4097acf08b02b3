package split_test

import (
	"testing"

	"winnowing/api"
	"winnowing/nest"
	"winnowing/probe"
	"winnowing/split"
	"winnowing/toks"
)

// Short names for what the tables of the tests are made of.
var (
	tok, name, sign, white   = probe.Tok, probe.Name, probe.Sign, probe.White()
	round, square, curly, fn = probe.Round, probe.Square, probe.Curly, probe.Fn
	list, tell, tellAll      = probe.List, probe.Tell, probe.TellAll
)

// Values that are nearly a blank or a comma, each with one field that is otherwise.
var (
	oddWhite   = tok(api.Token{Kind: api.TokWhite, Text: "x", N: 7})
	fullWhite  = api.Val{Kind: api.ValTok, Tok: white.Tok, L: list(name("x"))}
	roundWhite = api.Val{Kind: api.ValRound, Tok: white.Tok}
	noWhite    = api.Val{Tok: white.Tok}
	lineSign   = sign("\n")

	fullComma  = api.Val{Kind: api.ValTok, Tok: probe.Delim(","), L: list(name("x"))}
	numComma   = tok(api.Token{Kind: api.TokDelim, Text: ",", N: 1})
	roundComma = api.Val{Kind: api.ValRound, Tok: probe.Delim(",")}
	noComma    = api.Val{Tok: probe.Delim(",")}
	nameComma  = name(",")
)

func lists(l ...[]api.Val) [][]api.Val { return l }

// vals is the values of s as nest parses them, with the blanks around them.
func vals(t *testing.T, s string) []api.Val {
	t.Helper()
	l, err := nest.Parse(toks.All(s), api.MaxDeep)
	if err != api.OK {
		t.Fatalf("%q: error %d", s, err)
	}
	return l
}

func texts(l [][]api.Val) []string {
	all := make([]string, len(l))
	for i, part := range l {
		all[i] = split.Text(part)
	}
	return all
}
