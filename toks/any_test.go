package toks_test

import (
	"math"
	"slices"
	"strings"
	"testing"

	"winnowing/api"
	"winnowing/toks"
)

// wildTokens: every kind and none, with numbers and texts in and out of bounds.
func wildTokens() []api.Token {
	var l []api.Token
	for _, kind := range []int{math.MinInt, -1, 0, 1, 2, 3, 4, 5, 6, 7, 8, 9, math.MaxInt} {
		for _, n := range []int{math.MinInt, -api.MaxNum - 1, -1, 0, 1, 34, 39, api.MaxNum, math.MaxInt} {
			for _, s := range []string{"", "a", "\n", "'", `"`, "</", "/", "<", "/*", "1%", "a b(\x00\xff"} {
				l = append(l, api.Token{Kind: kind, Text: s, N: n})
			}
		}
	}
	return l
}

// R1 and P1: no call panics, whatever it is given.
func TestAnyArguments(t *testing.T) {
	for _, x := range wildTokens() {
		toks.May(x)
		toks.All(toks.One(x))
	}
	toks.All(toks.Text(wildTokens()))
	if toks.Text(nil) != "" || toks.Text([]api.Token{}) != "" || len(toks.All("")) != 0 {
		t.Error("empty arguments")
	}
}

// R1: the time a long text takes grows with its length alone, also where it is ill-formed throughout.
func TestLongTexts(t *testing.T) {
	const n = 300000
	for _, s := range []string{"a", "1", "-", " ", "'", `"'`, "'\n", "'a\"\n", "/", "*", "/*", "/**/", "#", "@", "(", "f(", "\x80", "\x00", "<", "</", "%"} {
		l := toks.All(strings.Repeat(s, n))
		if got := toks.All(toks.Text(l)); !slices.Equal(got, l) {
			t.Errorf("%q, %d times, is not read back", s, n)
		}
	}
	long := strings.Repeat("'", n)
	for kind := range 10 {
		x := api.Token{Kind: kind, Text: long, N: 39}
		toks.May(x)
		toks.Text(list(x, x, x))
	}
	if toks.Text(make([]api.Token, n)) != strings.Repeat("/**/", n-1) {
		t.Error("Text of zero tokens")
	}
}

// R4: the arguments stay as they were; so does what an earlier call returned.
func TestArgumentsStay(t *testing.T) {
	l := append(someTokens(), wildTokens()...)
	spare := append(slices.Clone(l), ident("spare"))
	before := slices.Clone(spare)
	first := toks.Text(spare[:len(l)])
	if !slices.Equal(spare, before) {
		t.Error("Text changed its argument")
	}
	a := toks.All(first)
	kept := slices.Clone(a)
	_ = append(a, ident("x"))
	b := toks.All(first)
	for i := range b {
		b[i] = api.Token{}
	}
	if !slices.Equal(a, kept) {
		t.Error("two results share memory")
	}
	for _, x := range l {
		same := x
		toks.One(x)
		toks.May(x)
		if x != same {
			t.Error("a token changed")
		}
	}
}

// R3: a call tells the same again.
func TestNothingIsKept(t *testing.T) {
	const s = "a{b:'c'}\n/*"
	first := toks.All(s)
	toks.All("'\"/*")
	toks.Text(wildTokens())
	if !slices.Equal(first, toks.All(s)) || toks.Text(first) != toks.Text(toks.All(s)) {
		t.Error("a later call differs")
	}
}
