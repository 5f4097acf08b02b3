package toks_test

import (
	"slices"
	"strings"
	"testing"

	"winnowing/api"
	"winnowing/toks"
)

// P1.3.
func TestText(t *testing.T) {
	nothing := api.Token{Kind: 9, Text: "a"}
	for _, c := range []struct {
		l    []api.Token
		want string
	}{
		{nil, ""},
		{list(), ""},
		{list(ident("a")), "a"},
		{list(nothing), ""},

		{list(ident("a"), ident("b")), "a/**/b"},
		{list(ident("a"), function("b")), "a/**/b("},
		{list(ident("a"), num(1, "")), "a/**/1"},
		{list(ident("a"), num(-1, "")), "a/**/-1"},
		{list(ident("a"), delim("-")), "a/**/-"},
		{list(ident("a"), delim("(")), "a/**/("},
		{list(num(1, ""), num(2, "")), "1/**/2"},
		{list(num(1, ""), ident("a")), "1/**/a"},
		{list(num(1, ""), ident("--")), "1/**/--"},
		{list(num(1, ""), delim("%")), "1/**/%"},
		{list(num(1, "a"), num(-2, "")), "1a/**/-2"},
		{list(hash("a"), ident("b")), "#a/**/b"},
		{list(at("a"), num(1, "")), "@a/**/1"},
		{list(delim("#"), ident("a")), "#/**/a"},
		{list(delim("#"), delim("-")), "#/**/-"},
		{list(delim("@"), function("a")), "@/**/a("},
		{list(delim("-"), num(1, "")), "-/**/1"},
		{list(delim("-"), ident("a")), "-/**/a"},
		{list(delim("-"), delim("-")), "-/**/-"},
		{list(delim("/"), delim("*")), "//**/*"},
		{list(white, white), "\n/**/\n"},

		{list(ident("a"), white, ident("b")), "a\nb"},
		{list(ident("a"), hash("b"), at("c"), str("d", 34)), "a#b@c\"d\""},
		{list(function("f"), delim("("), ident("a"), delim(")")), "f((a)"},
		{list(at("a"), delim("(")), "@a("},
		{list(hash("a"), delim("(")), "#a("},
		{list(num(1, "px"), delim("(")), "1px("},
		{list(num(1, ""), num(-2, "")), "1-2"},
		{list(num(1, ""), delim("-")), "1-"},
		{list(num(1, "%"), ident("a")), "1%a"},
		{list(delim("@"), num(-1, "")), "@-1"},
		{list(delim("@"), delim("-")), "@-"},
		{list(delim("*"), delim("/")), "*/"},
		{list(delim("/"), delim("/")), "//"},
		{list(str("a", 34), str("b", 34)), `"a""b"`},
		{list(ident("a"), delim(":"), num(1, "px"), delim(";")), "a:1px;"},

		{list(delim("<"), delim("/")), "</**//"},
		{list(delim("<"), delim("/"), ident("style"), delim(">")), "</**//style>"},
		{list(delim("<"), delim("<"), delim("/")), "<</**//"},
		{list(delim("<"), white, delim("/")), "<\n/"},
		{list(delim("/"), delim("<")), "/<"},
		{list(delim("<"), delim("!")), "<!"},
		{list(ident("a"), delim("/")), "a/"},
		{list(delim("<"), api.Token{Kind: api.TokDelim, Text: "/", N: 1}), "</**//"},

		{list(delim("'"), ident("a")), "'/*\n*/a"},
		{list(delim("'"), delim("'")), "'/*\n*/'/*\n*/"},
		{list(delim(`"`), str("a", 34)), "\"/*\n*/\"a\""},
		{list(ident("a"), delim("'")), "a'/*\n*/"},

		{list(nothing, nothing), "/**/"},
		{list(ident("a"), nothing, ident("b")), "a/**//**/b"},
		{list(ident("a"), api.Token{Kind: api.TokWhite}, ident("b")), "a/**/\n/**/b"},
		{list(ident("a"), api.Token{Kind: api.TokDelim, Text: ";", N: 1}), "a/**/;"},
		{list(ident("a b"), delim(";")), "a b/**/;"},
		{list(ident(""), ident("")), "/**/"},
	} {
		if got := toks.Text(c.l); got != c.want {
			t.Errorf("Text(%#v) = %q, want %q", c.l, got, c.want)
		}
	}
}

// plainText follows the words of P1.3.
func plainText(l []api.Token) string {
	var b strings.Builder
	for i, x := range l {
		if i > 0 {
			a := l[i-1]
			closing := a.Kind == api.TokDelim && a.Text == "<" && x.Kind == api.TokDelim && x.Text == "/"
			if closing || !slices.Equal(toks.All(toks.One(a)+toks.One(x)), list(a, x)) {
				b.WriteString("/**/")
			}
		}
		b.WriteString(toks.One(x))
	}
	return b.String()
}

func TestTextOfAllPairs(t *testing.T) {
	l := append(someTokens(), wildTokens()...)
	for _, a := range l {
		for _, b := range l {
			if pair := list(a, b); toks.Text(pair) != plainText(pair) {
				t.Errorf("Text(%#v) = %q, want %q", pair, toks.Text(pair), plainText(pair))
			}
		}
	}
	if toks.Text(l) != plainText(l) {
		t.Error("Text of a long list")
	}
}
