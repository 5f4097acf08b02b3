package split_test

import (
	"slices"
	"strings"
	"testing"

	"winnowing/api"
	"winnowing/nest"
	"winnowing/probe"
	"winnowing/split"
	"winnowing/toks"
)

// P3.1, Trim.
func TestTrim(t *testing.T) {
	for s, want := range map[string]string{
		"": "", " ": "", " /**/ /**/ ": "",
		"a": "a", " a": "a", "a ": "a", " a ": "a", " /**/ a /**/ ": "a",
		"a b": "a b", " a  b ": "a b", " a /**/ b ": "a /**/ b",
		" ( a ) ": "( a )", " f( )": "f( )", "( )": "( )", " ) ": ")",
		" , ": ",", "' ' ": "' '",
	} {
		if got := split.Trim(vals(t, s)); !nest.Same(got, vals(t, want)) {
			t.Errorf("Trim of %q: %s", s, tell(got))
		}
	}
	for _, c := range []struct{ l, want []api.Val }{
		{nil, nil},
		{list(), nil},
		{list(oddWhite, name("a"), oddWhite), list(name("a"))},
		{list(fullWhite, name("a"), fullWhite), list(name("a"))},
		{list(white, oddWhite, fullWhite), nil},
		{list(name("a"), white, oddWhite, name("b")), list(name("a"), white, oddWhite, name("b"))},
		{list(roundWhite, white, roundWhite), list(roundWhite, white, roundWhite)},
		{list(noWhite), list(noWhite)},
		{list(lineSign), list(lineSign)},
		{list(white, api.Val{}, white), list(api.Val{})},
		{list(white, api.Val{Kind: 9, L: list(white)}), list(api.Val{Kind: 9, L: list(white)})},
	} {
		if got := split.Trim(c.l); tell(got) != tell(c.want) {
			t.Errorf("Trim of %s: %s, want %s", tell(c.l), tell(got), tell(c.want))
		}
	}
}

// P3.1, At, on the values of texts.
func TestAt(t *testing.T) {
	for _, c := range []struct {
		s, delim string
		want     []string
	}{
		{"a,(b,c)", ",", []string{"a", "(b,c)"}},
		{"", ",", []string{""}},
		{",", ",", []string{"", ""}},
		{",,", ",", []string{"", "", ""}},
		{"a", ",", []string{"a"}},
		{",a", ",", []string{"", "a"}},
		{"a,", ",", []string{"a", ""}},
		{"a,,b", ",", []string{"a", "", "b"}},
		{" a , b ", ",", []string{"\na\n", "\nb\n"}},
		{" ", ",", []string{"\n"}},
		{"a;b,c;d", ";", []string{"a", "b,c", "d"}},
		{"[a,b],{a,b},f(a,b),g((a,b))", ",", []string{"[a,b]", "{a,b}", "f(a,b)", "g((a,b))"}},
		{"(,)", ",", []string{"(,)"}},
		{"(a,", ",", []string{"(a,)"}},
		{"a),b", ",", []string{"a)", "b"}},
		{"a)b", ")", []string{"a", "b"}},
		{"(a)b", "(", []string{"(a)b"}},
		{"a','b", ",", []string{"a','b"}},
		{"a/*,*/b", ",", []string{"a/**/b"}},
		{"a:b", "", []string{"a:b"}},
		{"a,;b", ",;", []string{"a,;b"}},
		{"a b", "\n", []string{"a\nb"}},
		{"aba", "a", []string{"aba"}},
		{"a b a", "b", []string{"a\nb\na"}},
		{"!important", "!", []string{"", "important"}},
	} {
		if got := texts(split.At(vals(t, c.s), c.delim)); !slices.Equal(got, c.want) {
			t.Errorf("At(%q, %q) = %q, want %q", c.s, c.delim, got, c.want)
		}
	}
}

// P3.1, At: what is a delimiter, and what is not.
func TestWhatADelimiterIs(t *testing.T) {
	a, b := name("a"), name("b")
	for _, c := range []struct {
		l     []api.Val
		delim string
		want  [][]api.Val
	}{
		{nil, ",", lists(nil)},
		{list(), "", lists(nil)},
		{list(a, sign(","), b), ",", lists(list(a), list(b))},
		{list(a, fullComma, b), ",", lists(list(a), list(b))},
		{list(a, sign(""), b), "", lists(list(a), list(b))},
		{list(a, sign("<>"), b), "<>", lists(list(a), list(b))},
		{list(a, sign("<>"), b), "<", lists(list(a, sign("<>"), b))},
		{list(a, sign("\xff"), b), "\xff", lists(list(a), list(b))},
		{list(a, sign("x"), b), "X", lists(list(a, sign("x"), b))},
		{list(a, numComma, b), ",", lists(list(a, numComma, b))},
		{list(a, roundComma, b), ",", lists(list(a, roundComma, b))},
		{list(a, noComma, b), ",", lists(list(a, noComma, b))},
		{list(a, nameComma, b), ",", lists(list(a, nameComma, b))},
		{list(a, white, b), "\n", lists(list(a, white, b))},
		{list(a, lineSign, b), "\n", lists(list(a), list(b))},
		{list(api.Val{Kind: 9, L: list(sign(","))}, sign(",")), ",", lists(list(api.Val{Kind: 9, L: list(sign(","))}), nil)},
		{list(api.Val{}), "", lists(list(api.Val{}))},
	} {
		if got := split.At(c.l, c.delim); tellAll(got) != tellAll(c.want) {
			t.Errorf("At of %s, %q:\n%swant\n%s", tell(c.l), c.delim, tellAll(got), tellAll(c.want))
		}
	}
}

// P3.1, Join.
func TestJoin(t *testing.T) {
	a, b := name("a"), name("b")
	for _, c := range []struct {
		l     [][]api.Val
		delim string
		want  []api.Val
	}{
		{nil, ",", nil},
		{lists(), ",", nil},
		{lists(nil), ",", nil},
		{lists(list(a)), ",", list(a)},
		{lists(nil, nil), ",", list(sign(","))},
		{lists(nil, list(), nil), ";", list(sign(";"), sign(";"))},
		{lists(list(a), list(b)), ",", list(a, sign(","), b)},
		{lists(list(a, b), nil, list(white)), ",", list(a, b, sign(","), sign(","), white)},
		{lists(list(white, a), list(white)), "", list(white, a, sign(""), white)},
		{lists(list(a), list(b)), "and", list(a, sign("and"), b)},
		{lists(list(a), list(b)), "\n", list(a, lineSign, b)},
		{lists(list(sign(",")), list(round(sign(",")))), ",", list(sign(","), sign(","), round(sign(",")))},
		{lists(list(api.Val{}), list(api.Val{Kind: 9, L: list(a)})), ",", list(api.Val{}, sign(","), api.Val{Kind: 9, L: list(a)})},
	} {
		if got := split.Join(c.l, c.delim); tell(got) != tell(c.want) {
			t.Errorf("Join of\n%swith %q: %s, want %s", tellAll(c.l), c.delim, tell(got), tell(c.want))
		}
	}
}

// P3.2.
func TestWords(t *testing.T) {
	for s, want := range map[string][]string{
		"":                     nil,
		" ":                    nil,
		" /**/ ":               nil,
		"a":                    {"a"},
		" a ":                  {"a"},
		"a b":                  {"a", "b"},
		" a  /**/ b/**/c ":     {"a", "b/**/c"},
		"a,b c":                {"a,b", "c"},
		"a , b":                {"a", ",", "b"},
		"f( a b )c [d e]{g h}": {"f(\na\nb\n)c", "[d\ne]{g\nh}"},
		"( )":                  {"(\n)"},
		"'a b' c":              {"'a b'", "c"},
		") ]":                  {")", "]"},
	} {
		if got := texts(split.Words(vals(t, s))); !slices.Equal(got, want) {
			t.Errorf("Words(%q) = %q, want %q", s, got, want)
		}
	}
	a, b := name("a"), name("b")
	for _, c := range []struct {
		l    []api.Val
		want [][]api.Val
	}{
		{nil, nil},
		{list(a, oddWhite, b), lists(list(a), list(b))},
		{list(fullWhite, a, fullWhite, white, b), lists(list(a), list(b))},
		{list(a, roundWhite, b), lists(list(a, roundWhite, b))},
		{list(a, noWhite, lineSign, b), lists(list(a, noWhite, lineSign, b))},
		{list(white, api.Val{}, white), lists(list(api.Val{}))},
		{list(api.Val{Kind: 9, L: list(white)}), lists(list(api.Val{Kind: 9, L: list(white)}))},
	} {
		if got := split.Words(c.l); tellAll(got) != tellAll(c.want) {
			t.Errorf("Words of %s:\n%swant\n%s", tell(c.l), tellAll(got), tellAll(c.want))
		}
	}
}

// P3.3, Text.
func TestText(t *testing.T) {
	for _, c := range []struct {
		l    []api.Val
		want string
	}{
		{nil, ""},
		{list(), ""},
		{list(name("a"), white, name("b")), "a\nb"},
		{list(name("a"), name("b")), "a/**/b"},
		{list(name("a"), round(name("b"))), "a/**/(b)"},
		{list(fn("f", name("b")), square(), curly(white)), "f(b)[]{\n}"},
		{list(sign("<"), sign("/")), "</**//"},
		{list(white, name("a"), white), "\na\n"},
		{list(api.Val{}, api.Val{Kind: 9, L: list(name("a"))}), ""},
	} {
		if got := split.Text(c.l); got != c.want {
			t.Errorf("Text of %s: %q, want %q", tell(c.l), got, c.want)
		}
	}
	w := probe.NewWild(4)
	for range 2000 {
		if l := w.Vals(3); split.Text(l) != toks.Text(nest.Flat(l)) {
			t.Fatalf("Text of %s: %q", tell(l), split.Text(l))
		}
	}
}

// P3.3, Read.
func TestRead(t *testing.T) {
	for _, c := range []struct {
		s    string
		want []api.Val
	}{
		{"", nil},
		{" \n\t", nil},
		{"/* */", nil},
		{" a ", list(name("a"))},
		{"/**/ a b /**/", list(name("a"), white, name("b"))},
		{" f( a ) ", list(fn("f", white, name("a"), white))},
		{"(a", list(round(name("a")))},
		{"( ", list(round(white))},
		{"a] ", list(name("a"), sign("]"))},
		{"\x00", list(sign("\x00"))},
	} {
		if got, err := split.Read(c.s); err != api.OK || tell(got) != tell(c.want) {
			t.Errorf("Read(%q) = %s, error %d, want %s", c.s, tell(got), err, tell(c.want))
		}
	}
}

// P3.3, the bound of Read: 60 blocks one inside the other, and the error of Parse with more.
func TestReadTooDeep(t *testing.T) {
	for depth := range 64 {
		for _, open := range []string{"(", "[", "{", "f(", " a("} {
			s := "a " + strings.Repeat(open, depth) + " b"
			got, err := split.Read(s)
			if depth > 60 {
				if err != api.ErrDeep || len(got) != 0 {
					t.Errorf("%d times %q: %d values, error %d", depth, open, len(got), err)
				}
				continue
			}
			if err != api.OK || nest.Depth(got) != depth {
				t.Errorf("%d times %q: depth %d, error %d", depth, open, nest.Depth(got), err)
			}
		}
	}
}
