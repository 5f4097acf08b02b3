package toks_test

import (
	"math"
	"slices"
	"strconv"
	"testing"

	"winnowing/api"
	"winnowing/toks"
)

// P1.2, One.
func TestOne(t *testing.T) {
	for _, c := range []struct {
		tok  api.Token
		want string
	}{
		{ident("a"), "a"},
		{ident(""), ""},
		{ident("1 x("), "1 x("},
		{function("f"), "f("},
		{function(""), "("},
		{at("m"), "@m"},
		{at(""), "@"},
		{hash("1a"), "#1a"},
		{hash(""), "#"},
		{num(0, ""), "0"},
		{num(3, "px"), "3px"},
		{num(-3, "%"), "-3%"},
		{num(math.MaxInt, "x"), strconv.Itoa(math.MaxInt) + "x"},
		{num(math.MinInt, ""), strconv.Itoa(math.MinInt)},
		{str("x", 34), `"x"`},
		{str("x", 39), "'x'"},
		{str(`a"b`, 34), `"a"b"`},
		{str("", 39), "''"},
		{api.Token{Kind: api.TokStr, Text: "x"}, `"x"`},
		{api.Token{Kind: api.TokStr, Text: "x", N: -39}, `"x"`},
		{api.Token{Kind: api.TokStr, Text: "x", N: 295}, `"x"`},
		{delim("<"), "<"},
		{delim(""), ""},
		{delim("ab"), "ab"},
		{delim(`"`), "\"/*\n*/"},
		{delim("'"), "'/*\n*/"},
		{delim("''"), "''"},
		{api.Token{Kind: api.TokDelim, Text: "'", N: 5}, "'/*\n*/"},
		{white, "\n"},
		{api.Token{Kind: api.TokWhite, Text: "abc", N: 4}, "\n"},
		{api.Token{Kind: 0, Text: "a"}, ""},
		{api.Token{Kind: 9, Text: "a", N: 1}, ""},
		{api.Token{Kind: -1, Text: "a"}, ""},
		{api.Token{Kind: math.MaxInt, Text: "a"}, ""},
		{api.Token{Kind: math.MinInt, Text: "a"}, ""},
	} {
		if got := toks.One(c.tok); got != c.want {
			t.Errorf("One(%#v) = %q, want %q", c.tok, got, c.want)
		}
	}
}

// P1.2, May: valid tokens.
func TestMayValid(t *testing.T) {
	for _, x := range someTokens() {
		if !toks.May(x) {
			t.Errorf("%#v is not valid", x)
		}
	}
}

// P1.2, May: tokens that are not read back.
func TestMayInvalid(t *testing.T) {
	for _, x := range list(
		ident(""), ident("1"), ident("-"), ident("-1"), ident("a b"), ident("a("), ident("a/**/"), ident("#a"),
		function(""), function("1"), function("a("), function("-"), function(" "),
		at(""), at("1"), at("-"), at("-1"), at("a b"),
		hash(""), hash("."), hash("a."), hash("a/**/"),
		num(api.MaxNum+1, ""), num(-api.MaxNum-1, ""), num(math.MinInt, ""), num(math.MaxInt, "px"),
		num(1, "2"), num(1, "-2"), num(1, "-"), num(1, "%%"), num(1, "a%"), num(1, " "), num(1, "."), num(1, "/**/"),
		str(`"`, 34), str("'", 39), str("a\nb", 34), str("\r", 39), str("\f", 34), str("x", 0), str("x", 40),
		delim(""), delim("ab"), delim("a"), delim("1"), delim(" "), delim("\n"), delim("\x80"), delim("_"), delim("''"), delim("</"),
		api.Token{Kind: api.TokWhite}, api.Token{Kind: api.TokWhite, Text: " "}, api.Token{Kind: api.TokWhite, Text: "\n\n"},
		api.Token{}, api.Token{Kind: 9}, api.Token{Kind: 9, Text: "a"}, api.Token{Kind: -1, Text: "\n"},
	) {
		if toks.May(x) {
			t.Errorf("%#v is valid", x)
		}
	}
	for _, x := range someTokens() {
		if x.Kind == api.TokNum {
			continue
		}
		if x.N++; toks.May(x) {
			t.Errorf("%#v is valid", x)
		}
	}
}

// P1.2, May is what its words say of All and One, whatever the token.
func TestMayAsAll(t *testing.T) {
	for _, x := range wildTokens() {
		if got, want := toks.May(x), slices.Equal(toks.All(toks.One(x)), list(x)); got != want {
			t.Errorf("May(%#v) = %v", x, got)
		}
	}
}
