package toks_test

import (
	"slices"
	"testing"

	"winnowing/api"
	"winnowing/toks"
)

func checkBack(t *testing.T, l []api.Token) {
	t.Helper()
	if got := toks.All(toks.Text(l)); !slices.Equal(got, l) {
		t.Fatalf("%#v is written %q and read back %#v", l, toks.Text(l), got)
	}
}

// P1.4, lists of valid tokens.
func TestValidTokensAreReadBack(t *testing.T) {
	l := someTokens()
	checkBack(t, nil)
	checkBack(t, l)
	for _, a := range l {
		checkBack(t, list(a))
		for _, b := range l {
			checkBack(t, list(a, b))
		}
	}
}

// P1.4: what is kept apart two by two is apart in longer lists too.
func TestValidTriplesAreReadBack(t *testing.T) {
	l := list(
		ident("a"), ident("--"), function("f"), at("m"), hash("1"), num(1, ""), num(-1, "%"), num(2, "n"),
		str("", 34), str("'", 34), str("/*", 39), white,
		delim("'"), delim(`"`), delim("/"), delim("*"), delim("<"), delim("-"), delim("#"), delim("@"), delim("%"), delim("("), delim("."),
	)
	for _, a := range l {
		for _, b := range l {
			for _, c := range l {
				checkBack(t, list(a, b, c))
				checkBack(t, list(a, b, c, a, b, b, c, c))
			}
		}
	}
}

// P1.4, the tokens of texts: each is valid, and all are read back.
func TestTokensOfTextsAreReadBack(t *testing.T) {
	check := func(s string) {
		l := toks.All(s)
		for _, x := range l {
			if !toks.May(x) {
				t.Fatalf("All(%q) has %#v, which is not valid", s, x)
			}
		}
		checkBack(t, l)
	}
	for _, s := range []string{
		"", "a{b:c}", "p > .x:hover, #y::before { color : RED ! important; --a: 'q\"' }",
		"@media (min-width: 9px) { p { x: -1.5em } } /* no end",
		"'no end\n\"nor here\r''", "</style>", "<!-- a -->", "/**/ /**/ a/**/b", "-1000000000000px", "url(a/b*c)", "\x00\x80\xff\v",
	} {
		check(s)
	}
	eachString("a1-/*'#@(%< \n", 4, check)
	for i := range uint64(2000) {
		check(randomBytes(i+77, "aZ_09--/**\"'#@(). %\n\r\t\f\x00\x80\xff<:", int(i%131)))
	}
}

func FuzzReadBack(f *testing.F) {
	f.Add("a:1px 'x' /**/")
	f.Add("</style '\n'")
	f.Fuzz(func(t *testing.T, s string) {
		l := toks.All(s)
		if want := reference(s); !slices.Equal(l, want) {
			t.Fatalf("All(%q) = %#v, want %#v", s, l, want)
		}
		checkBack(t, l)
	})
}
