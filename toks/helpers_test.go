package toks_test

import (
	"slices"
	"testing"

	"winnowing/api"
	"winnowing/probe"
	"winnowing/toks"
)

// Short names for what the tables of the tests are made of.
var ident, function, delim = probe.Ident, probe.Function, probe.Delim

func at(name string) api.Token   { return api.Token{Kind: api.TokAt, Text: name} }
func hash(name string) api.Token { return api.Token{Kind: api.TokHash, Text: name} }

func num(n int, unit string) api.Token {
	return api.Token{Kind: api.TokNum, Text: unit, N: n}
}

func str(inner string, quote byte) api.Token {
	return api.Token{Kind: api.TokStr, Text: inner, N: int(quote)}
}

// signs are the bytes that no case but the last of P1.1 takes, or only with others behind them.
const signs = "!\"#$%&'()*+,-./:;<=>?@[\\]^`{|}~\x00\x01\x02\x03\x04\x05\x06\x07\x08\x0b\x0e\x0f" +
	"\x10\x11\x12\x13\x14\x15\x16\x17\x18\x19\x1a\x1b\x1c\x1d\x1e\x1f\x7f"

var white = api.Token{Kind: api.TokWhite, Text: "\n"}

func list(l ...api.Token) []api.Token { return l }

// lexes are texts, and the tokens that each must have.
type lexes []struct {
	s    string
	want []api.Token
}

func (l lexes) check(t *testing.T) {
	t.Helper()
	for _, c := range l {
		if got := toks.All(c.s); !slices.Equal(got, c.want) {
			t.Errorf("All(%q) = %#v, want %#v", c.s, got, c.want)
		}
	}
}

// eachString goes through all texts over an alphabet, up to a length.
func eachString(alphabet string, length int, do func(string)) {
	var grow func(s string, left int)
	grow = func(s string, left int) {
		do(s)
		if left == 0 {
			return
		}
		for i := range len(alphabet) {
			grow(s+alphabet[i:i+1], left-1)
		}
	}
	grow("", length)
}

// randomBytes is the same sequence in every run.
func randomBytes(seed uint64, alphabet string, n int) string {
	b := make([]byte, n)
	for i := range b {
		seed = seed*6364136223846793005 + 1442695040888963407
		b[i] = alphabet[int(seed>>33)%len(alphabet)]
	}
	return string(b)
}

// someTokens: valid ones of every kind, with the signs that could run together.
func someTokens() []api.Token {
	l := list(
		ident("a"), ident("-b"), ident("--"), ident("--1"), ident("_"), ident("\x80"), ident("e3-"),
		function("f"), function("-g"), function("--"),
		at("m"), at("-m"), at("--x"), at("\xff9"),
		hash("a"), hash("1"), hash("-"), hash("--1a"),
		num(0, ""), num(7, ""), num(-7, ""), num(1, "%"), num(2, "n-1"), num(3, "--"), num(-4, "-x"), num(5, "\x80"),
		num(api.MaxNum, ""), num(-api.MaxNum, "px"),
		str("", 34), str("", 39), str("'", 34), str(`"`, 39), str("/*", 34), str("*/", 39), str("a b\t\x00", 34),
		white,
	)
	for i := range len(signs) {
		l = append(l, delim(signs[i:i+1]))
	}
	return l
}
