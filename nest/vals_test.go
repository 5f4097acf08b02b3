package nest_test

import (
	"slices"
	"testing"

	"winnowing/api"
	"winnowing/nest"
	"winnowing/probe"
	"winnowing/toks"
)

// P2.2, Flat.
func TestFlat(t *testing.T) {
	open, shut := delim("("), delim(")")
	inner := list(name("a"))
	odd := api.Token{Kind: api.TokDelim, Text: "(", N: 7}
	for _, c := range []struct {
		l    []api.Val
		want []api.Token
	}{
		{nil, nil},
		{list(), nil},
		{list(name("a"), white, sign(")")), []api.Token{ident("a"), white.Tok, shut}},
		{list(round()), []api.Token{open, shut}},
		{list(square()), []api.Token{delim("["), delim("]")}},
		{list(curly()), []api.Token{delim("{"), delim("}")}},
		{list(fn("f")), []api.Token{function("f"), shut}},
		{list(round(name("a"), square(name("b"))), name("c")), []api.Token{open, ident("a"), delim("["), ident("b"), delim("]"), shut, ident("c")}},
		{list(fn("f", fn("g"), curly(name("a")))), []api.Token{function("f"), function("g"), shut, delim("{"), ident("a"), delim("}"), shut}},

		// Values that Parse does not return.
		{list(api.Val{}), nil},
		{list(api.Val{Kind: 6, Tok: ident("x"), L: inner}, api.Val{Kind: -1, L: inner}, api.Val{L: inner}), nil},
		{list(name("a"), api.Val{Kind: 9}, name("b")), []api.Token{ident("a"), ident("b")}},
		{list(api.Val{Kind: api.ValTok, Tok: ident("x"), L: inner}), []api.Token{ident("x")}},
		{list(api.Val{Kind: api.ValTok}), []api.Token{{}}},
		{list(tok(odd)), []api.Token{odd}},
		{list(api.Val{Kind: api.ValRound, Tok: ident("x"), L: inner}), []api.Token{open, ident("a"), shut}},
		{list(api.Val{Kind: api.ValFunc, Tok: api.Token{Kind: api.TokFunc, Text: "f", N: 3}}), []api.Token{{Kind: api.TokFunc, Text: "f", N: 3}, shut}},
		{list(api.Val{Kind: api.ValFunc, L: inner}), []api.Token{{}, ident("a"), shut}},
		{list(api.Val{Kind: api.ValFunc, Tok: ident("x")}), []api.Token{ident("x"), shut}},
	} {
		if got := nest.Flat(c.l); !slices.Equal(got, c.want) {
			t.Errorf("Flat of %s: %#v, want %#v", tell(c.l), got, c.want)
		}
	}
}

// P2.2, Depth.
func TestDepth(t *testing.T) {
	for s, want := range map[string]int{
		"": 0, "a b": 0, ")": 0,
		"()": 1, "[]": 1, "{}": 1, "f()": 1, "a()b()": 1, "(": 1,
		"(())": 2, "[f(a)]": 2, "()(())()": 2, "(())()": 2,
		"({[f()]})": 4, "(a(b)c(d(e)))": 3,
	} {
		if got := nest.Depth(parsed(t, s)); got != want {
			t.Errorf("Depth(%q) = %d, want %d", s, got, want)
		}
	}
	for _, c := range []struct {
		l    []api.Val
		want int
	}{
		{nil, 0},
		{list(), 0},
		{list(api.Val{}), 0},
		{list(api.Val{Kind: api.ValTok, L: list(round())}), 0},
		{list(api.Val{L: list(round())}), 0},
		{list(api.Val{Kind: 6, L: list(round())}), 0},
		{list(api.Val{Kind: -2, L: list(round())}), 0},
		{list(round(api.Val{Kind: api.ValTok, L: list(round(round()))})), 1},
		{list(round(api.Val{Kind: 7, L: list(round())}, square())), 2},
		{list(api.Val{Kind: 7, L: list(round(round()))}, square()), 1},
		{list(api.Val{Kind: api.ValFunc}), 1},
	} {
		if got := nest.Depth(c.l); got != c.want {
			t.Errorf("Depth of %s: %d, want %d", tell(c.l), got, c.want)
		}
	}
	for kind := api.ValRound; kind <= api.ValFunc; kind++ {
		for _, depth := range []int{1, 2, 59, 60, 61, 1000} {
			if got := nest.Depth(nested(kind, depth)); got != depth {
				t.Errorf("kind %d: %d, want %d", kind, got, depth)
			}
		}
	}
}

// P2.2, Same: each field counts, at every depth and in values of every kind. R5: empty is nil.
func TestSame(t *testing.T) {
	different := [][]api.Val{
		nil,
		list(api.Val{}),
		list(api.Val{}, api.Val{}),
		list(api.Val{Kind: 1}),
		list(api.Val{Kind: 6}),
		list(api.Val{Kind: -1}),
		list(api.Val{Tok: api.Token{Kind: 1}}),
		list(api.Val{Tok: api.Token{Text: "a"}}),
		list(api.Val{Tok: api.Token{Text: "A"}}),
		list(api.Val{Tok: api.Token{N: 1}}),
		list(name("a")),
		list(name("b")),
		list(name("a"), name("b")),
		list(name("b"), name("a")),
		list(round()),
		list(square()),
		list(round(name("a"))),
		list(round(name("b"))),
		list(round(), name("a")),
		list(fn("f", name("a"))),
		list(fn("g", name("a"))),
		list(api.Val{Kind: 1, L: list(name("a"))}),
		list(api.Val{Kind: 9, L: list(name("a"))}),
		list(api.Val{Kind: 9, L: list(name("b"))}),
		list(round(square(curly(name("a"))))),
		list(round(square(curly(sign("a"))))),
		list(round(square(curly(tok(api.Token{Kind: api.TokIdent, Text: "a", N: 1}))))),
	}
	for i, a := range different {
		for j, b := range different {
			if got := nest.Same(a, b); got != (i == j) {
				t.Errorf("Same of %s and %s: %v", tell(a), tell(b), got)
			}
		}
	}
	empty := func() []api.Val { return make([]api.Val, 0, 4) }
	if !nest.Same(nil, empty()) || !nest.Same(empty(), nil) || !nest.Same(empty(), empty()) || !nest.Same(list(round()), list(round(empty()...))) {
		t.Error("an empty list and none differ")
	}
	if !nest.Same(list(api.Val{Kind: 8, L: empty()}), list(api.Val{Kind: 8})) {
		t.Error("an empty list and none differ inside a value")
	}
	if a, b := parsed(t, "a(b{c}[d])"), parsed(t, "a(b{c}[d"); !nest.Same(a, b) || nest.Same(a, parsed(t, "a(b{c}[e])")) {
		t.Error("values of texts")
	}
}

// P2.2, on values that nobody chose: Same holds just where all fields are told alike.
func TestSameOfWildValues(t *testing.T) {
	w := probe.NewWild(11)
	var lists [][]api.Val
	for range 120 {
		lists = append(lists, w.Vals(2))
	}
	for _, a := range lists {
		for _, b := range lists {
			if nest.Same(a, b) != (tell(a) == tell(b)) {
				t.Fatalf("Same of %s and %s", tell(a), tell(b))
			}
		}
	}
}

// P2.3.
func TestMay(t *testing.T) {
	for _, s := range []string{"", "a", ")", "}]", "()", "[a]", "{a:b}", "f(a,b)", "a(b]", "([)", "{(}", "'(' /*(*/", "f(g(h({[", "-1%#a@b<!"} {
		if !nest.May(parsed(t, s)) {
			t.Errorf("%q is not valid", s)
		}
	}
	for kind := api.ValRound; kind <= api.ValFunc; kind++ {
		if !nest.May(nested(kind, 60)) || nest.May(nested(kind, 61)) || nest.May(nested(kind, 62)) {
			t.Errorf("kind %d: the bound of the depth", kind)
		}
	}
	tokens := func(l ...api.Token) (vals []api.Val) {
		for _, t := range l {
			vals = append(vals, tok(t))
		}
		return vals
	}
	for i, l := range [][]api.Val{
		// Tokens that are not valid, wherever they stand.
		tokens(api.Token{}),
		tokens(ident("")),
		tokens(ident("1")),
		tokens(ident("a b")),
		tokens(ident("a"), ident(" ")),
		tokens(api.Token{Kind: api.TokIdent, Text: "a", N: 1}),
		tokens(api.Token{Kind: api.TokDelim, Text: ")", N: 1}),
		tokens(api.Token{Kind: api.TokDelim, Text: "(", N: 1}),
		list(round(square(name("")))),
		list(fn("")),
		list(fn("1")),
		list(api.Val{Kind: api.ValFunc, Tok: api.Token{Kind: api.TokFunc, Text: "f", N: 1}}),

		// Tokens that open a block, or close the one that they stand in.
		tokens(delim("(")),
		tokens(delim("["), ident("a")),
		tokens(ident("a"), delim("{")),
		tokens(function("f")),
		tokens(delim("("), delim(")")),
		list(round(sign(")"))),
		list(square(sign("]"))),
		list(curly(sign("}"))),
		list(fn("f", sign(")"))),
		list(round(name("a"), sign(")"), name("b"))),

		// Fields that Parse does not fill.
		list(api.Val{}),
		list(api.Val{Kind: 6}),
		list(api.Val{Kind: -1}),
		list(name("a"), api.Val{}),
		list(round(api.Val{})),
		list(api.Val{Kind: api.ValTok, Tok: ident("a"), L: list(name("b"))}),
		list(api.Val{Kind: api.ValRound, Tok: ident("a")}),
		list(api.Val{Kind: api.ValSquare, Tok: delim("[")}),
		list(api.Val{Kind: api.ValCurly, Tok: delim("{")}),
		list(api.Val{Kind: api.ValFunc}),
		list(api.Val{Kind: api.ValFunc, Tok: ident("a")}),
		list(api.Val{Kind: api.ValFunc, Tok: delim("(")}),
	} {
		if nest.May(l) {
			t.Errorf("case %d, %s, is valid", i, tell(l))
		}
	}
	for _, l := range [][]api.Val{
		nil,
		{},
		tokens(delim(")")),
		list(round(sign("]"), sign("}"))),
		list(square(sign(")"))),
		list(curly(sign(")"))),
		list(fn("f", sign("]"))),
		list(round(make([]api.Val, 0)...)),
	} {
		if !nest.May(l) {
			t.Errorf("%s is not valid", tell(l))
		}
	}
}

// P2.3, word by word, on values that nobody chose.
func TestMayOfWildValues(t *testing.T) {
	w := probe.NewWild(3)
	valid := 0
	for range 20000 {
		l := w.Vals(2)
		want := true
		for _, x := range nest.Flat(l) {
			want = want && toks.May(x)
		}
		back, depth := reference(nest.Flat(l))
		want = want && depth <= 60 && tell(back) == tell(l)
		if nest.May(l) != want {
			t.Fatalf("May of %s: %v", tell(l), !want)
		}
		if want && len(l) > 0 {
			valid++
		}
	}
	if valid == 0 {
		t.Error("none was valid")
	}
}

func checkBack(t *testing.T, l []api.Token) {
	t.Helper()
	first, err := nest.Parse(l, api.MaxDeep)
	if err != api.OK {
		return
	}
	again, err := nest.Parse(nest.Flat(first), api.MaxDeep)
	if err != api.OK || tell(again) != tell(first) {
		t.Fatalf("%s is parsed back %s, error %d", tell(first), tell(again), err)
	}
}

// P2.4: of any tokens; and the values of a text are valid.
func TestValuesAreParsedBack(t *testing.T) {
	probe.Each(toks.All("a(f([{)]}"), 5, func(l []api.Token) { checkBack(t, l) })
	var c probe.Chance = 9
	all := append(probe.WildTokens(), toks.All("(((f([[{{)))]]}}")...)
	for range 2000 {
		l := make([]api.Token, c.Below(60))
		for i := range l {
			l[i] = all[c.Below(len(all))]
		}
		checkBack(t, l)
	}
	for range 2000 {
		const bytes = "a1-('[{)]}\"\n/*#@"
		if s := c.Bytes(bytes, 40); !nest.May(parsed(t, s)) {
			t.Fatalf("the values of %q are not valid", s)
		}
	}
}

// P2.4 for the bound that the values were parsed with.
func TestParsedBackWithinTheSameBound(t *testing.T) {
	for deep := 1; deep <= api.MaxDeep; deep++ {
		l := nested(api.ValRound+deep%4, deep)
		got, err := nest.Parse(nest.Flat(l), deep)
		if err != api.OK || tell(got) != tell(l) {
			t.Errorf("deep %d: error %d", deep, err)
		}
	}
}
