package sheet_test

import (
	"math"
	"slices"
	"testing"

	"winnowing/api"
	"winnowing/probe"
	"winnowing/sheet"
)

func atLeast(n int) api.Val { return round(name("min-width"), colon, num(n, "px")) }
func atMost(n int) api.Val  { return round(name("max-width"), colon, num(n, "px")) }

// P8.2, each kind, with fields that valid items have.
func TestVals(t *testing.T) {
	blockA := curly(a, block)
	deep := list(white, fn("f", curly(semi), white), shut)
	for _, c := range []struct {
		l    []api.Item
		want []api.Val
	}{
		{nil, nil},
		{itemsOf(ruleA), list(a, block)},
		{itemsOf(ruleB, ruleA, ruleB), list(b, block, a, block, b, block)},
		{itemsOf(rule(one(tag("a")), xy, important("--A", deep...))), list(a, curly(
			x, colon, y, semi, name("--A"), colon, deep[0], deep[1], deep[2], sign("!"), name("important"),
		))},
		{itemsOf(rule(selsOf(
			probe.Complex(probe.Part(0, tag("a")), probe.Part(api.CombIn, tag("b")), probe.Part(api.CombChild, tag("c"))),
			probe.Pseudo("after", probe.Part(0, probe.Class("x"), probe.Is("y", "'"))),
		), xy)), list(a, white, b, sign(">"), c, comma, sign("."), x, square(y, sign("="), str("'")), colon, colon, name("after"), block)},

		{itemsOf(media(3, -1, ruleA)), list(atMedia, white, atLeast(3), blockA)},
		{itemsOf(media(0, -1, ruleA)), list(atMedia, white, atLeast(0), blockA)},
		{itemsOf(media(0, 5, ruleA)), list(atMedia, white, atMost(5), blockA)},
		{itemsOf(media(0, 0, ruleA)), list(atMedia, white, atMost(0), blockA)},
		{itemsOf(media(1, 0, ruleA)), list(atMedia, white, atLeast(1), white, name("and"), white, atMost(0), blockA)},
		{itemsOf(media(3, 5, ruleA, ruleB)), list(atMedia, white, atLeast(3), white, name("and"), white, atMost(5), curly(a, block, b, block))},

		{itemsOf(layer("l")), list(atLayer, white, name("l"), curly())},
		{itemsOf(layer("A", ruleA, media(3, -1, ruleA))), list(atLayer, white, name("A"), curly(a, block, atMedia, white, atLeast(3), blockA))},
		{itemsOf(names("l")), list(atLayer, white, name("l"), semi)},
		{itemsOf(names("l", "A", "l")), list(atLayer, white, name("l"), comma, name("A"), comma, name("l"), semi)},
		{itemsOf(frames("k")), list(atFrames, white, name("k"), curly())},
		{itemsOf(frames("k", deep...)), list(atFrames, white, name("k"), curly(deep...))},
		{itemsOf(font(xy, xy)), list(atFont, curly(x, colon, y, semi, x, colon, y))},
		{itemsOf(names("l"), font(xy), names("m")), list(atLayer, white, name("l"), semi, atFont, block, atLayer, white, name("m"), semi)},
	} {
		if got := sheet.Vals(c.l...); tell(got) != tell(c.want) {
			t.Errorf("Vals of %s: %s, want %s", tellItems(c.l), tell(got), tell(c.want))
		}
	}
}

// P8.2, items that are not valid: only the fields of their kinds are printed, whatever is in them.
func TestValsOfAny(t *testing.T) {
	full := api.Item{
		Sels: one(tag("a")), Decls: []api.Decl{xy}, Names: []string{"l", "1"}, Min: 3, Max: 5, Vals: list(noKind, inNoBlock, filled(c)), L: itemsOf(ruleB),
	}
	ofKind := func(kind int) api.Item { x := full; x.Kind = kind; return x }
	of := func(kind int) api.Item { return api.Item{Kind: kind} }
	widths := func(least, most int) api.Item { return media(least, most) }
	l1 := list(name("l"), comma, name("1"))
	for _, c := range []struct {
		x    api.Item
		want []api.Val
	}{
		{ofKind(api.ItemRule), list(a, block)},
		{ofKind(api.ItemMedia), list(atMedia, white, atLeast(3), white, name("and"), white, atMost(5), curly(b, block))},
		{ofKind(api.ItemLayer), slices.Concat(list(atLayer, white), l1, list(curly(b, block)))},
		{ofKind(api.ItemNames), slices.Concat(list(atLayer, white), l1, list(semi))},
		{ofKind(api.ItemFrames), slices.Concat(list(atFrames, white), l1, list(curly(noKind, inNoBlock, filled(c))))},
		{ofKind(api.ItemFont), list(atFont, block)},
		{ofKind(0), nil}, {ofKind(7), nil}, {ofKind(-1), nil}, {ofKind(math.MinInt), nil}, {ofKind(math.MaxInt), nil},
		{of(api.ItemRule), list(curly())},
		{of(api.ItemMedia), list(atMedia, white, atMost(0), curly())},
		{of(api.ItemLayer), list(atLayer, white, curly())},
		{of(api.ItemNames), list(atLayer, white, semi)},
		{of(api.ItemFrames), list(atFrames, white, curly())},
		{of(api.ItemFont), list(atFont, curly())},

		{widths(-5, 5), list(atMedia, white, atMost(5), curly())},
		{widths(-5, -1), list(atMedia, white, atLeast(-5), curly())},
		{widths(0, -2), list(atMedia, white, atLeast(0), curly())},
		{widths(7, math.MinInt), list(atMedia, white, atLeast(7), curly())},
		{widths(math.MaxInt, math.MaxInt), list(atMedia, white, atLeast(math.MaxInt), white, name("and"), white, atMost(math.MaxInt), curly())},
		{widths(math.MinInt, 0), list(atMedia, white, atMost(0), curly())},
		{widths(math.MinInt, math.MinInt), list(atMedia, white, atLeast(math.MinInt), curly())},

		{rule(one(tag("a {")), xy), list(a, white, curly(), block)},
		{rule(one(tag("a {"), tag("b; ")), xy), list(a, white, curly(b, semi, white), block)},
		{rule(one(tag("((((((((((((((((((((((((((((((((((((((((((((((((((((((((((((("), tag("a")), xy), list(block)},
		{rule(one(probe.NestedNot(61)), xy), list(block)},
		{rule(selsOf(probe.Complex(probe.Part(api.CombIn, tag("a")))), xy), list(a, block)},
		{frames("a b", shut), list(atFrames, white, name("a b"), curly(shut))},
		{layer("", ofKind(0), ofKind(api.ItemNames)), slices.Concat(list(atLayer, white, name("")), list(curly(slices.Concat(list(atLayer, white), l1, list(semi))...)))},
	} {
		for _, l := range [][]api.Item{{c.x}, {of(9), c.x, of(9)}} {
			if got := sheet.Vals(l...); tell(got) != tell(c.want) {
				t.Errorf("Vals of %s: %s, want %s", tellItems(l), tell(got), tell(c.want))
			}
		}
	}
}

// P8.2, Text.
func TestText(t *testing.T) {
	for s, want := range map[string]string{
		"":                  "",
		"a , b { x : y ; }": "a,b{x:y}",
		"a  b>c{x:y}d{x:y}": "a\nb>c{x:y}d{x:y}",
		"@media (min-width: 3px) AND (max-width:5px) { a{x:y} }": "@media\n(min-width:3px)\nand\n(max-width:5px){a{x:y}}",
		"@media (max-width:5px) { a{x:y} }":                      "@media\n(max-width:5px){a{x:y}}",
		"@media (min-width: 0px) { a{x:y} }":                     "@media\n(min-width:0px){a{x:y}}",
		"@layer a , b;":                                          "@layer\na,b;",
		"@layer a{}":                                             "@layer\na{}",
		"@keyframes k { to { x:y } }":                            "@keyframes\nk{to\n{\nx:y\n}}",
		"@font-face { A : b }":                                   "@font-face{a:b}",
		"a{x:'<' </**//!IMPORTANT;--A:\"}":                       "a{x:'<'\n</**//!important;--A:\"/*\n*/}",
	} {
		l, err := sheet.Parse(s)
		if got := sheet.Text(l); err != api.OK || got != want {
			t.Errorf("Text of %q: %q, want %q", s, got, want)
		}
	}
	if got := sheet.Text(itemsOf(names("a", "b"), api.Item{}, layer("b"), names())); got != "@layer\na,b;@layer\nb{}@layer\n;" {
		t.Errorf("Text: %q", got)
	}
}
