package sels_test

import (
	"strings"
	"testing"

	"winnowing/api"
	"winnowing/sels"
	"winnowing/split"
)

// P4.2, the simple selectors of one compound selector.
func TestSimple(t *testing.T) {
	reads{
		{"*", one(any1)},
		{"a", one(tag("a"))},
		{"DIV", one(tag("div"))},
		{"-Az_Z09\xc3\x89\xff", one(tag("-az_z09\xc3\x89\xff"))},
		{"hover", one(tag("hover"))},
		{"#a", one(id("a"))},
		{"#1A", one(id("1A"))},
		{"#-", one(id("-"))},
		{".A", one(class("A"))},
		{"./**/a", one(class("a"))},
		{".--", one(class("--"))},
		{"[A]", one(has("A"))},
		{"[ a /**/ ]", one(has("a"))},
		{"[a", one(has("a"))},
		{"[A=B]", one(is("A", "B"))},
		{"[ a = b ]", one(is("a", "b"))},
		{"[a='b c']", one(is("a", "b c"))},
		{`[a="it's"]`, one(is("a", "it's"))},
		{`[a= '"' ]`, one(is("a", `"`))},
		{"[a='']", one(is("a", ""))},
		{"[a=' ']", one(is("a", " "))},
		{"[a='\x00\xff\v]'", one(is("a", "\x00\xff\v]"))},
		{":hover", one(state("hover"))},
		{":focus", one(state("focus"))},
		{":active", one(state("active"))},
		{":checked", one(state("checked"))},
		{":/**/hover", one(state("hover"))},
		{":root", one(root)},
		{":empty", one(empty)},
		{":first-child", one(nthChild(0, 1))},
		{":nth-child(odd)", one(nthChild(2, 1))},
		{":nth-child( 2n+1 )", one(nthChild(2, 1))},
		{":nth-child(-3n-4", one(nthChild(-3, -4))},
		{":nth-child(0)", one(nthChild(0, 0))},
	}.check(t)
}

// P4.2, not: each other simple selector may stand in it, and only one.
func TestNot(t *testing.T) {
	reads{
		{":not(*)", one(not(any1))},
		{":not(A)", one(not(tag("a")))},
		{":not( #a )", one(not(id("a")))},
		{":not(/**/ .a /**/ )", one(not(class("a")))},
		{":not([a])", one(not(has("a")))},
		{":not([ a = 'b' ])", one(not(is("a", "b")))},
		{":not(:hover)", one(not(state("hover")))},
		{":not(:root)", one(not(root))},
		{":not(:empty)", one(not(empty))},
		{":not(:first-child)", one(not(nthChild(0, 1)))},
		{":not(:nth-child(2n))", one(not(nthChild(2, 0)))},
		{":not(.a", one(not(class("a")))},
		{"a:not(b):not(c)", one(tag("a"), not(tag("b")), not(tag("c")))},
	}.check(t)
	refused(t, ":not", ":not()", ":not( )", ":not(a b)", ":not(a.b)", ":not(.a.b)", ":not(a,b)", ":not(a,)", ":not(>a)", ":not(a>b)", ":not(::before)", ":not(a::before)",
		":not(:not(a))", ":not( :not(a) )", ":not(:not())", ":not(:x)", ":not(:nth-child(x))", ":not([])", ":not(.)", ":not(:)", ":not(1)", ":not((a))", ":NOT(a)", ":not (a)", ": not(a)", "not(a)", "::not(a)")
}

func TestNoSimple(t *testing.T) {
	refused(t, "", " ", "/**/", "1", "1a", "'a'", "@a", "(a)", "{a}", "f(a)", "a(b)", "-", "#", ".", ".1", ".#a", ".*", ". a", "..a", ".a.", ".f(a)", ".'a'", "&", "|a", "a|b", "%", "\x00", "<a>", "]", ")",
		"[]", "[ ]", "[1]", "['a']", "[*]", "[.a]", "[#a]", "[a b]", "[a,b]", "[[a]]", "[a()]", "[a=]", "[=a]", "[=]", "[a=1]", "[a=#b]", "[a=b c]", "[a='b'c]", "[a='b' 'c']", "[a==b]", "[a=b=c]", "[a~=b]", "[a|=b]", "[a=(b)]", "[a='b]", "[a='b\n']", "[a=b i]",
		":", ":a", ":HOVER", ":Root", ":hovers", ":visited", ":first", ":first-line", ":before", ":after", ":odd", ":1", ":'a'", ":*", ":.a", ": hover", ":#hover", ":(hover)",
		":nth-child", ":nth-child()", ":nth-child(x)", ":nth-child(2n + 1)", ":nth-child(10000)", ":nth-child (odd)", ": nth-child(odd)", ":NTH-CHILD(odd)", ":nth-last-child(odd)", "nth-child(odd)", ":hover()", ":root()", ":first-child()", ":is(a)", ":before()")
}

// P4.2, compound selectors: no blanks within, the element's name first, 1 to 8.
func TestCompound(t *testing.T) {
	reads{
		{"a.b#c[d]:root", one(tag("a"), class("b"), id("c"), has("d"), root)},
		{"*.b.b", one(any1, class("b"), class("b"))},
		{"[a][b=c]#d#d", one(has("a"), is("b", "c"), id("d"), id("d"))},
		{":hover:not(a):nth-child(2)", one(state("hover"), not(tag("a")), nthChild(0, 2))},
		{"a/**/.b", one(tag("a"), class("b"))},
		{"a.a.a.a.a.a.a.a", one(tag("a"), class("a"), class("a"), class("a"), class("a"), class("a"), class("a"), class("a"))},
		{"#a#a#a#a#a#a#a#a", one(id("a"), id("a"), id("a"), id("a"), id("a"), id("a"), id("a"), id("a"))},
	}.check(t)
	refused(t, "a*", "**", "*a", "a/**/b", ".a*", ".a/**/b", "[a]b", "[a]*", ":root*", ":not(a)b", "#a/**/b", "a1.b 2", "a.b.", "a.b:", "a'b'",
		"a.a.a.a.a.a.a.a.a", "#a#a#a#a#a#a#a#a#a", "b .a.a.a.a.a.a.a.a.a", ".a.a.a.a.a.a.a.a.a b", ".a.a.a.a.a.a.a.a.a::before")
}

// P4.2, complex selectors: the combinators, with and without blanks.
func TestComplex(t *testing.T) {
	a, b := part(first, tag("a")), tag("b")
	in, child := selsOf(complexOf(a, part(api.CombIn, b))), selsOf(complexOf(a, part(api.CombChild, b)))
	next, later := selsOf(complexOf(a, part(api.CombNext, b))), selsOf(complexOf(a, part(api.CombLater, b)))
	reads{
		{"a b", in}, {" a  b ", in}, {"a /**/ b", in}, {"a\n/**/\n/**/\nb", in}, {"a/**/ b", in},
		{"a>b", child}, {"a >b", child}, {"a> b", child}, {"a > b", child}, {"a /**/ > /**/ b", child},
		{"a+b", next}, {"a +b", next}, {"a+ b", next}, {" a + b ", next},
		{"a~b", later}, {"a ~b", later}, {"a~ b", later}, {"a ~ b ", later},
		{"a b>c+d~.e #f", selsOf(complexOf(a, part(api.CombIn, b), part(api.CombChild, tag("c")), part(api.CombNext, tag("d")), part(api.CombLater, class("e")), part(api.CombIn, id("f"))))},
		{"a * b", selsOf(complexOf(a, part(api.CombIn, any1), part(api.CombIn, b)))},
		{"a>*", selsOf(complexOf(a, part(api.CombChild, any1)))},
		{"a.b .c:root", selsOf(complexOf(part(first, tag("a"), class("b")), part(api.CombIn, class("c"), root)))},
		{"a [b]", selsOf(complexOf(a, part(api.CombIn, has("b"))))},
		{"a :root", selsOf(complexOf(a, part(api.CombIn, root)))},
	}.check(t)
	refused(t, ">", ">a", "> a", "a>", "a >", "a> ", "a>>b", "a> >b", "a>+b", "a+ ~b", "+a", "~ a", "a ~", "a||b", "a/b", "a<b", "a=b", "a;b", "a!b", "a b*", "a b c*", "a 1", "a (b)", "a {b}", "a> 'b'", "a>b>", "a .", "a : b")
}

// P4.2, pseudo-elements, at the end alone.
func TestPseudoElement(t *testing.T) {
	a := part(first, tag("a"))
	before := selsOf(pseudo("before", a))
	reads{
		{"a::before", before}, {" a::before ", before}, {"a/**/:/**/:/**/before", before},
		{"a::after", selsOf(pseudo("after", a))},
		{"::before", selsOf(pseudo("before", part(first)))},
		{" ::after ", selsOf(pseudo("after", part(first)))},
		{"a ::before", selsOf(pseudo("before", a, part(api.CombIn)))},
		{"a>::before", selsOf(pseudo("before", a, part(api.CombChild)))},
		{"a + ::after", selsOf(pseudo("after", a, part(api.CombNext)))},
		{"a~::after", selsOf(pseudo("after", a, part(api.CombLater)))},
		{"a b.c::after", selsOf(pseudo("after", a, part(api.CombIn, tag("b"), class("c"))))},
		{":hover::before", selsOf(pseudo("before", part(first, state("hover"))))},
		{"::before,a::after", selsOf(pseudo("before", part(first)), pseudo("after", a))},
		{"a.a.a.a.a.a.a.a::after", selsOf(pseudo("after", part(first, tag("a"), class("a"), class("a"), class("a"), class("a"), class("a"), class("a"), class("a"))))},
	}.check(t)
	refused(t, "::", "a::", "a:: ", "::x", "a::x", "a::hover", "a::BEFORE", "a::first-line", "a:before", "a: :before", "a:: before", "a:::before", "a::before()", "a::'before'", "a::#before",
		"::before::after", "a::before b", "a::before>b", "a::before ::after", "a::before.b", "a::before:hover", "a::before*", "a::before::before", "::before b", ">::before", "::before>", "a::before 1")
}

// P4.2, lists.
func TestList(t *testing.T) {
	a, b := complexOf(part(first, tag("a"))), complexOf(part(first, tag("b")))
	reads{
		{"a,b", selsOf(a, b)}, {" a , b ", selsOf(a, b)}, {"a /**/,/**/ b", selsOf(a, b)},
		{"a,a,b", selsOf(a, a, b)},
		{"a > .b:hover, #c::before", selsOf(complexOf(part(first, tag("a")), part(api.CombChild, class("b"), state("hover"))), pseudo("before", part(first, id("c"))))},
	}.check(t)
	refused(t, ",", ",,", "a,", ",a", "a,,b", "a, ,b", "a , ", "a,1", "1,a", "a,b c*", "a,>b", "a;b", "(a,b)")
}

// P4.2, the limits of each count, and one more.
func TestLimits(t *testing.T) {
	for _, c := range []struct {
		begin, more, end string
		most             int
	}{
		{"a", ".a", "", api.MaxSimple},
		{"b a", ".a", " b", api.MaxSimple},
		{"a", " a", "", api.MaxParts},
		{"a", ">a", "", api.MaxParts},
		{"b,a", "~a", ",b", api.MaxParts},
		{"a", "+a", "::before", api.MaxParts},
		{"a", " a", ":root", api.MaxParts},
		{"a", ",a", "", api.MaxList},
		{" a ", " , ::before ", "", api.MaxList},
	} {
		for n, want := range map[int]api.Errno{1: api.OK, c.most - 1: api.OK, c.most: api.OK, c.most + 1: api.ErrSel, c.most + 2: api.ErrSel} {
			s := c.begin + strings.Repeat(c.more, n-1) + c.end
			l, err := sels.Read(s)
			if err != want || (err == api.OK) != (len(l) > 0) || sels.May(l) != (err == api.OK) {
				t.Errorf("%d of %q: %d selectors, error %d", n, c.more, len(l), err)
			}
		}
	}
	// The empty compound selector ahead of a pseudo-element counts as well.
	for n, want := range map[int]api.Errno{api.MaxParts - 1: api.OK, api.MaxParts: api.ErrSel} {
		if _, err := sels.Read(strings.Repeat("a ", n) + "::before"); err != want {
			t.Errorf("%d parts and an empty one: error %d", n, err)
		}
	}
	most := strings.TrimSuffix(strings.Repeat("a"+strings.Repeat(".a", 7)+strings.Repeat(" b"+strings.Repeat(":not(c)", 7), 15)+"::after,", 32), ",")
	if l, err := sels.Read(most); err != api.OK || len(l) != 32 || len(l[31].Parts) != 16 || len(l[31].Parts[15].L) != 8 || !sels.May(l) {
		t.Errorf("the greatest list: error %d", err)
	}
}

// P4.2, Read: the error of a text with too many blocks is ErrSel too.
func TestReadTooDeep(t *testing.T) {
	for _, s := range []string{strings.Repeat("[", 61), ":not" + strings.Repeat("(", 61), "a,b" + strings.Repeat("{", 100)} {
		if _, err := split.Read(s); err != api.ErrDeep {
			t.Fatalf("%q: error %d", s, err)
		}
		refused(t, s)
	}
}

// P4.2, Parse on values that no text has.
func TestParseValues(t *testing.T) {
	oddSign := func(s string) api.Val { return tok(api.Token{Kind: api.TokDelim, Text: s, N: 1}) }
	oddWhite := tok(api.Token{Kind: api.TokWhite, Text: "x", N: 7})
	full := func(v api.Val) api.Val { v.L = list(name("x")); return v }
	for _, c := range []struct {
		l    []api.Val
		want []api.Complex
	}{
		{nil, nil},
		{list(), nil},
		{list(white), nil},
		{list(api.Val{}), nil},
		{list(white, name("a"), white, white), one(tag("a"))},
		{list(oddWhite, name("a"), oddWhite, name("b")), selsOf(complexOf(part(first, tag("a")), part(api.CombIn, tag("b"))))},
		{list(tok(api.Token{Kind: api.TokIdent, Text: "A", N: 4})), one(tag("a"))},
		{list(tok(api.Token{Kind: api.TokIdent})), one(tag(""))},
		{list(full(name("a"))), one(tag("a"))},
		{list(full(sign("*"))), one(any1)},
		{list(oddSign("*")), nil},
		{list(oddSign("."), name("a")), nil},
		{list(sign("."), name("")), one(class(""))},
		{list(oddSign(":"), name("root")), nil},
		{list(sign(":"), tok(api.Token{Kind: api.TokFunc, Text: "root"})), nil},
		{list(sign(":"), tok(api.Token{Kind: api.TokFunc, Text: "not"})), nil},
		{list(tok(api.Token{Kind: api.TokHash, Text: "", N: 9})), one(id(""))},
		{list(api.Val{Kind: api.ValSquare, Tok: name("z").Tok, L: list(name("a"))}), one(has("a"))},
		{list(square(white, name("a"), oddWhite, sign("="), white, white, tok(api.Token{Kind: api.TokStr, Text: "'\"\n"}))), one(is("a", "'\"\n"))},
		{list(square(name("a"), oddSign("="), name("b"))), nil},
		{list(round(name("a"))), nil},
		{list(curly(name("a"))), nil},
		{list(api.Val{Kind: 9, L: list(name("a"))}), nil},
		{list(api.Val{Kind: api.ValRound, Tok: name("a").Tok}), nil},
		{list(api.Val{Kind: api.ValRound, Tok: sign("*").Tok}), nil},
		{list(api.Val{Kind: api.ValRound, Tok: hash("a").Tok}), nil},
		{list(name("a"), api.Val{Kind: api.ValRound, Tok: white.Tok}), nil},
		{list(name("a"), api.Val{Tok: white.Tok}, name("b")), nil},
		{list(square(name("a"), api.Val{Tok: sign("=").Tok}, name("b"))), nil},
		{list(sign(":"), fn("nth-child", white, num(3, "n"), white)), one(nthChild(3, 0))},
		{list(sign(":"), fn("not", white, name("A"), oddWhite)), one(not(tag("a")))},
		{list(sign(":"), fn("not", sign(":"), fn("nth-child", name("odd")))), one(not(nthChild(2, 1)))},
		{list(sign(":"), fn("not", sign(":"), fn("not", name("a")))), nil},
		{list(name("a"), sign(">"), name("b")), selsOf(complexOf(part(first, tag("a")), part(api.CombChild, tag("b"))))},
		{list(name("a"), oddSign(">"), name("b")), nil},
		{list(name("a"), name(">"), name("b")), nil},
		{list(name("a"), sign(","), name("b")), selsOf(complexOf(part(first, tag("a"))), complexOf(part(first, tag("b"))))},
		{list(name("a"), oddSign(","), name("b")), nil},
		{list(name("a"), sign("::"), name("before")), nil},
		{list(sign(":"), sign(":"), name("before")), selsOf(pseudo("before", part(first)))},
		{list(sign(":"), oddSign(":"), name("before")), nil},
		{list(sign(":"), sign(":"), fn("before")), nil},
	} {
		got, err := sels.Parse(c.l)
		if (err == api.OK) != (len(c.want) > 0) || err != api.OK && err != api.ErrSel || tellSels(got) != tellSels(c.want) {
			t.Errorf("Parse of %s: %s, error %d, want %s", tell(c.l), tellSels(got), err, tellSels(c.want))
		}
	}
}
