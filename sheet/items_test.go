package sheet_test

import (
	"slices"
	"strconv"
	"strings"
	"testing"

	"winnowing/api"
	"winnowing/probe"
	"winnowing/sheet"
)

// P8.1: the items, in order.
func TestItems(t *testing.T) {
	parses{
		{"", nil},
		{" ", nil},
		{"/**/", nil},
		{";", nil},
		{"}", nil},
		{"a{x:y}", itemsOf(ruleA)},
		{" a { x : y } ", itemsOf(ruleA)},
		{"b{x:y}a{x:y} b{x:y}", itemsOf(ruleB, ruleA, ruleB)},
		{"@layer a, b; @media (min-width: 9px) { p { x: y } }", itemsOf(names("a", "b"), media(9, -1, rule(one(tag("p")), xy)))},
		{"@font-face{x:y}a{x:y}@keyframes k{}@layer l{}@layer l;@media (max-width:0px){a{x:y}}", itemsOf(
			font(xy), ruleA, frames("k"), layer("l"), names("l"), media(0, 0, ruleA),
		)},
	}.check(t)
}

// P8.1: the error of split.Read, and nothing beside it.
func TestParseError(t *testing.T) {
	for deep, want := range map[int]api.Errno{0: api.OK, 59: api.OK, 60: api.OK, 61: api.ErrDeep, 1000: api.ErrDeep} {
		for _, open := range []string{"(", "[", "{", "f("} {
			l, err := sheet.Parse("a{x:y}" + strings.Repeat(open, deep))
			if err != want || (len(l) == 1) != (want == api.OK) {
				t.Errorf("%d of %s: %s, error %d", deep, open, tellItems(l), err)
			}
		}
	}
}

// The words of the chapter, the statements: what ends one, and where the next one begins.
func TestStatements(t *testing.T) {
	parses{
		{"@x;a{x:y}", itemsOf(ruleA)},
		{"@x{;}a{x:y}", itemsOf(ruleA)},
		{"@x{b{x:y}}a{x:y}", itemsOf(ruleA)},
		{"@x b{x:y}a{x:y}", itemsOf(ruleA)},
		{"@x(;{})[;{}]f(;{});a{x:y}", itemsOf(ruleA)},
		{"@x b{x:y};a{x:y}b{x:y}", itemsOf(ruleB)},
		{"@x", nil},
		{"@x a", nil},
		{"@import x; a{x:y", itemsOf(ruleA)},
		{"@x @y;a{x:y}", itemsOf(ruleA)},
		{"@x @y{x:y}a{x:y}", itemsOf(ruleA)},
		{"@x;@layer a;@x{}@layer b", itemsOf(names("a"), names("b"))},
		{"a{x:y};b{x:y}c{x:y}", itemsOf(ruleA, ruleC)},
		{"a b; c { x:y } b{x:y}", itemsOf(ruleB)},
		{"a @layer b;c{x:y}b{x:y}", itemsOf(ruleB)},
		{"a @layer b;", nil},
		{"a;@layer b;", nil},
		{"a{x:y} b", itemsOf(ruleA)},
		{"a{x:y}b;@layer c;", itemsOf(ruleA)},
		{"{x:y}a{x:y}", itemsOf(ruleA)},
		{"{}{}a{x:y}", itemsOf(ruleA)},
		{"(a{x:y})b{x:y}a{x:y}", itemsOf(ruleA)},
		{"1{x:y}a{x:y}", itemsOf(ruleA)},
		{"} a{x:y}b{x:y}", itemsOf(ruleB)},
		{"@1;a{x:y}b{x:y}", itemsOf(ruleB)},
		{"<!-- a{x:y}b{x:y}", itemsOf(ruleB)},
		{"@LAYER a;@Layer b;@MEDIA (min-width:3px){a{x:y}}@KeyFrames k{}@Font-Face{x:y}", itemsOf(names("a"), names("b"), media(3, -1, ruleA), frames("k"), font(xy))},
		{"@layers a;@lay a;@-layer a;@keyframe k{}@-x-keyframes k{}@font{x:y}@fontface{x:y}", nil},
		{"layer a;", nil},
		{"#layer a;", nil},
		{"@ layer a;b{x:y}", nil},
	}.check(t)
	parsesVals{
		{list(white, white, numbered(at("layer")), white, a, white, white), itemsOf(names("a"))},
		{list(filled(white), filled(at("layer")), white, a, white, white), itemsOf(names("a"))},
		{list(at(""), a, semi, a, block), itemsOf(ruleA)},
		{list(at(""), a, block, b, block), itemsOf(ruleB)},
		{list(at("\xc3layer"), a, semi, a, block), itemsOf(ruleA)},
		{list(unkind(atLayer), a, semi, a, block, b, block), itemsOf(ruleB)},
		{list(ofKind(api.ValRound, atLayer), a, semi, a, block, b, block), itemsOf(ruleB)},
		{list(unkind(white), a, block, b, block), itemsOf(ruleB)},
		{list(noKind, a, block, b, block), itemsOf(ruleB)},
		{list(at("x"), numbered(semi), a, block, b, block), itemsOf(ruleB)},
		{list(at("x"), unkind(semi), a, block, b, block), itemsOf(ruleB)},
		{list(at("x"), name(";"), a, block, b, block), itemsOf(ruleB)},
		{list(at("x"), sign(";;"), a, block, b, block), itemsOf(ruleB)},
		{list(at("x"), filled(semi), a, block), itemsOf(ruleA)},
		{list(at("x"), ofKind(9, block), b, block, a, block), itemsOf(ruleA)},
		{list(atLayer, white, a, ofKind(9, curly())), nil},
		{list(atLayer, white, a, ofKind(api.ValSquare, curly())), nil},
	}.check(t)
}

// The words of the chapter, ItemRule: a selector list, and at least one declaration.
func TestRules(t *testing.T) {
	parses{
		{"a , b { x : y ; } c{}", itemsOf(rule(selsOf(probe.Complex(probe.Part(0, tag("a"))), probe.Complex(probe.Part(0, tag("b")))), xy))},
		{"a{}", nil},
		{"a{;}", nil},
		{"a{x}", nil},
		{"a{x:}", nil},
		{"a{x;x:y;z}", itemsOf(ruleA)},
		{"a{x:y!important;X:y;x:y}", itemsOf(rule(one(tag("a")), important("x", y), xy, xy))},
		{"a{b{x:y}}", nil},
		{"a{b{x:y};x:y}", itemsOf(ruleA)},
		{"a{@layer b;x:y}", itemsOf(ruleA)},
		{"a{x:{y};x:y}", itemsOf(rule(one(tag("a")), decl("x", curly(y)), xy))},
		{"a,{x:y}", nil},
		{"a b{x:y", itemsOf(rule(selsOf(probe.Complex(probe.Part(0, tag("a")), probe.Part(api.CombIn, tag("b")))), xy))},
		{"a:foo{x:y}", nil},
		{"a:hover::before{x:y}", itemsOf(rule(selsOf(probe.Pseudo("before", probe.Part(0, tag("a"), probe.InState("hover")))), xy))},
		{"A{x:y}", itemsOf(ruleA)},
		{strings.Repeat("a,", 31) + "a{x:y}", itemsOf(rule(slices.Repeat(one(tag("a")), 32), xy))},
		{strings.Repeat("a,", 32) + "a{x:y}", nil},
	}.check(t)
	parsesVals{
		{list(name(""), block), itemsOf(rule(one(tag("")), xy))},
		{list(a, curly(name(""), colon, y)), itemsOf(rule(one(tag("a")), decl("", y)))},
		{list(a, curly(x, colon, shut)), itemsOf(rule(one(tag("a")), decl("x", shut)))},
		{list(a, api.Val{Kind: api.ValCurly, Tok: a.Tok, L: block.L}), itemsOf(ruleA)},
	}.check(t)
}

// The words of the chapter, ItemMedia: the conditions.
func TestConditions(t *testing.T) {
	const most = api.MaxWidth
	for prelude, want := range map[string][2]int{
		"(min-width:3px)":                       {3, -1},
		"(max-width:5px)":                       {0, 5},
		"(min-width:0px)":                       {0, -1},
		"(max-width:0px)":                       {0, 0},
		"(min-width:-0px)":                      {0, -1},
		"(min-width:100000px)":                  {most, -1},
		"(max-width:0100000px)":                 {0, most},
		"( min-width : 3px )":                   {3, -1},
		"(min-width/**/:/**/3px)":               {3, -1},
		"(min-width:3px) and (max-width:5px)":   {3, 5},
		"(max-width:5px) and (min-width:3px)":   {3, 5},
		"(min-width:5px)  AND\n(max-width:3px)": {5, 3},
		"(min-width:3px) And (min-width:5px)":   {5, -1},
		"(min-width:5px) aNd (min-width:3px)":   {5, -1},
		"(max-width:3px) and (max-width:5px)":   {0, 3},
		"(max-width:5px) and (max-width:3px)":   {0, 3},
		"(max-width:0px) and (max-width:3px)":   {0, 0},
		"(max-width:3px) and (max-width:0px)":   {0, 0},
		"(min-width:0px) and (max-width:3px)":   {0, 3},
		"(min-width:1px) and (max-width:9px) and (min-width:4px) and (max-width:7px) and (min-width:2px) and (max-width:8px)": {4, 7},
		strings.Repeat("(min-width:1px) and ", 999) + "(max-width:2px)":                                                       {1, 2},
	} {
		parses{
			{"@media " + prelude + " {a{x:y}}", itemsOf(media(want[0], want[1], ruleA))},
			{"@media" + prelude + "{a{x:y}}", itemsOf(media(want[0], want[1], ruleA))},
		}.check(t)
	}
}

// The same: what is no list of conditions.
func TestNoConditions(t *testing.T) {
	for _, prelude := range []string{
		"", "print", "all", "and", "()", "( )", "(and)", "min-width:3px", "[min-width:3px]", "f(min-width:3px)", "((min-width:3px))",
		"(min-width)", "(min-width:)", "(:3px)", "(min-width 3px)", "(min-width::3px)", "(:min-width:3px)", "(min-width:3px:)", "(min-width=3px)",
		"(width:3px)", "(MIN-WIDTH:3px)", "(Max-width:3px)", "(min-height:3px)", "(-min-width:3px)", "('min-width':3px)", "(#min-width:3px)",
		"(min-width:3)", "(min-width:3PX)", "(min-width:3pxx)", "(min-width:3em)", "(min-width:3%)", "(min-width:px)", "(min-width:'3px')", "(min-width:3 px)",
		"(min-width:-1px)", "(max-width:-1px)", "(min-width:100001px)", "(max-width:100001px)", "(max-width:9999999999px)", "(min-width:+3px)", "(min-width:3.5px)",
		"(min-width:3px 3px)", "(min-width:3px,)", "(min-width:(3px))", "(a min-width:3px)", "(min-width a:3px)", "(min-width:3px;)",
		"(min-width:3px)(max-width:5px)", "(min-width:3px) (max-width:5px)", "(min-width:3px)and(max-width:5px)", "(min-width:3px) and(max-width:5px)",
		"(min-width:3px)and (max-width:5px)", "(min-width:3px)/**/and/**/(max-width:5px)", "(min-width:3px) or (max-width:5px)", "(min-width:3px), (max-width:5px)",
		"(min-width:3px) and", "and (min-width:3px)", "(min-width:3px) and and (max-width:5px)", "(min-width:3px) 'and' (max-width:5px)", "(min-width:3px) ands (max-width:5px)",
		"(min-width:3px) and (width:5px)", "(width:3px) and (max-width:5px)", "not (min-width:3px)", "screen and (min-width:3px)", "(min-width:3px) and screen", "(min-width:3px) , ",
		"(min-width:3px) and (max-width:5px) and", "(min-width:3px) and (max-width:5px) (max-width:5px)", "(min-width:3px) and (max-width:5px) or (max-width:5px)",
	} {
		parses{{"@media " + prelude + " {a{x:y}}b{x:y}", itemsOf(ruleB)}}.check(t)
	}
	parses{
		{"@media", nil},
		{"@media (min-width:3px)", nil},
		{"@media (min-width:3px);a{x:y}", itemsOf(ruleA)},
		{"@media (min-width:3px{a{x:y}}", nil},
	}.check(t)
	inside := curly(a, block)
	parsesVals{
		{list(atMedia, least3, white, numbered(name("and")), white, most5, inside), itemsOf(media(3, 5, ruleA))},
		{list(atMedia, least3, white, filled(name("and")), white, most5, inside), itemsOf(media(3, 5, ruleA))},
		{list(atMedia, white, white, least3, white, white, name("and"), white, white, most5, white, white, inside), itemsOf(media(3, 5, ruleA))},
		{list(atMedia, round(white, numbered(name("min-width")), white, white, colon, white, white, filled(num(3, "px")), white), inside), itemsOf(media(3, -1, ruleA))},
		{list(atMedia, round(name("min-width"), numbered(colon), num(3, "px")), inside), nil},
		{list(atMedia, round(name("min-width"), unkind(colon), num(3, "px")), inside), nil},
		{list(atMedia, round(name("min-width"), filled(colon), num(3, "px")), inside), itemsOf(media(3, -1, ruleA))},
		{list(atMedia, round(name("min-width"), colon, ofKind(api.ValRound, num(3, "px"))), inside), nil},
		{list(atMedia, round(ofKind(api.ValRound, name("min-width")), colon, num(3, "px")), inside), nil},
		{list(atMedia, round(name("min-width"), colon, num(3, "px"), noKind), inside), nil},
		{list(atMedia, ofKind(api.ValFunc, least3), inside), nil},
		{list(atMedia, ofKind(api.ValSquare, least3), inside), nil},
		{list(atMedia, ofKind(api.ValTok, least3), inside), nil},
		{list(atMedia, least3, white, ofKind(api.ValRound, name("and")), white, most5, inside), nil},
		{list(atMedia, least3, unkind(white), name("and"), white, most5, inside), nil},
		{list(atMedia, least3, noKind, inside), nil},
		{list(atMedia, name(""), inside), nil},
	}.check(t)
}

// The words of the chapter: which items stand in a media block and in a layer, wherever those stand.
func TestPlaces(t *testing.T) {
	const every = "a{x:y}@media (min-width:3px){b{x:y}}@layer l{c{x:y}}@layer m;@keyframes k{}@font-face{x:y}"
	inMedia := itemsOf(ruleA, frames("k"), font(xy))
	inLayer := itemsOf(ruleA, media(3, -1, ruleB), frames("k"), font(xy))
	parses{
		{every, itemsOf(ruleA, media(3, -1, ruleB), layer("l", ruleC), names("m"), frames("k"), font(xy))},
		{"@media (min-width:3px){" + every + "}", itemsOf(media(3, -1, inMedia...))},
		{"@layer d{" + every + "}", itemsOf(layer("d", inLayer...))},
		{"@layer d{@media (min-width:3px){" + every + "}}", itemsOf(layer("d", media(3, -1, inMedia...)))},
		{"@media (min-width:3px){@layer d{" + every + "}}", nil},
		{"@media (min-width:3px){@layer d{" + every + "}a{x:y}}", itemsOf(media(3, -1, ruleA))},
		{"@layer d{@layer e{" + every + "}}", itemsOf(layer("d"))},
		{"@media (min-width:3px){@media (min-width:3px){" + every + "}}", nil},
		{"@layer d{@media (min-width:3px){@media (min-width:3px){" + every + "}}}", itemsOf(layer("d"))},
		{"@x{" + every + "}", nil},
		{"a{" + every + "}", nil},

		{"@media (min-width:3px){}", nil},
		{"@media (min-width:3px){ }", nil},
		{"@media (min-width:3px){x:y}", nil},
		{"@media (min-width:3px){a{}}", nil},
		{"@media (min-width:3px){@layer a;}", nil},
		{"@media (min-width:3px){@layer a{b{x:y}}}", nil},
		{"@media (min-width:3px){@keyframes k{}}", itemsOf(media(3, -1, frames("k")))},
		{"@media (min-width:3px){@font-face{x:y}}", itemsOf(media(3, -1, font(xy)))},
		{"@media (min-width:3px){b{x:y}a{x:y}b{x:y}}", itemsOf(media(3, -1, ruleB, ruleA, ruleB))},
		{"@media (min-width:3px){;a{x:y}b{x:y}}", itemsOf(media(3, -1, ruleB))},
		{"@media (min-width:3px){a}b{x:y}", itemsOf(ruleB)},
	}.check(t)
}

// The words of the chapter, ItemLayer and ItemNames.
func TestLayers(t *testing.T) {
	few, many := slices.Repeat([]string{"a"}, 16), slices.Repeat([]string{"a"}, 17)
	parses{
		{"@layer a;", itemsOf(names("a"))},
		{"@layer a", itemsOf(names("a"))},
		{"@layer a , b", itemsOf(names("a", "b"))},
		{"@layer a,b,a;", itemsOf(names("a", "b", "a"))},
		{"@layer\ta/**/,/**/ b /**/;", itemsOf(names("a", "b"))},
		{"@layer/**/a;", itemsOf(names("a"))},
		{"@layer A,and,--,\xff;", itemsOf(names("A", "and", "--", "\xff"))},
		{"@layer " + strings.Join(few, ",") + ";", itemsOf(names(few...))},
		{"@layer " + strings.Join(many, ",") + ";", nil},
		{"@layer a{}", itemsOf(layer("a"))},
		{"@layer a { } ", itemsOf(layer("a"))},
		{"@layer A{b}", itemsOf(layer("A"))},
		{"@layer a{x:y}", itemsOf(layer("a"))},
		{"@layer l{b{x:y}a{x:y}", itemsOf(layer("l", ruleB, ruleA))},
		{"@layer a{}{x:y}b{x:y}", itemsOf(layer("a"), ruleB)},
		{"@layer a{};b{x:y}", itemsOf(layer("a"))},
		{"@layer a,b{c{x:y}}", nil},
		{"@layer;", nil},
		{"@layer", nil},
		{"@layer ;a{x:y}", itemsOf(ruleA)},
		{"@layer{a{x:y}}", nil},
		{"@layer {a{x:y}}", nil},
		{"@layer ,;", nil},
		{"@layer a,;", nil},
		{"@layer ,a;", nil},
		{"@layer a,,b;", nil},
		{"@layer a b;", nil},
		{"@layer a.b;", nil},
		{"@layer a b{}", nil},
		{"@layer 'a';", nil},
		{"@layer (a);", nil},
		{"@layer a();", nil},
		{"@layer 1;", nil},
		{"@layer #a;", nil},
		{"@layer a,b.c,d;", nil},
	}.check(t)
	parsesVals{
		{list(atLayer, numbered(a), filled(comma), filled(b), filled(semi)), itemsOf(names("a", "b"))},
		{list(atLayer, white, white, a, white, white, comma, white, white, b, white, white, semi), itemsOf(names("a", "b"))},
		{list(atLayer, a, numbered(comma), b, semi), nil},
		{list(atLayer, a, unkind(comma), b, semi), nil},
		{list(atLayer, name(""), semi), nil},
		{list(atLayer, a, comma, name(""), semi), nil},
		{list(atLayer, name(""), curly()), nil},
		{list(atLayer, unkind(a), semi), nil},
		{list(atLayer, ofKind(api.ValRound, a), semi), nil},
		{list(atLayer, a, noKind, semi), nil},
		{list(atLayer, a, inNoBlock, semi), nil},
		{list(atLayer, name("a b"), semi), itemsOf(names("a b"))},
		{list(atLayer, a, api.Val{Kind: api.ValCurly, Tok: semi.Tok, L: list(b, block)}), itemsOf(layer("a", ruleB))},
	}.check(t)
}

// The words of the chapter, ItemFrames and ItemFont.
func TestFramesAndFonts(t *testing.T) {
	parses{
		{"@keyframes k{}", itemsOf(frames("k"))},
		{"@keyframes K { } ", itemsOf(frames("K"))},
		{"@keyframes/**/k{a}", itemsOf(frames("k", a))},
		{"@keyframes k { a { x:y }  1% , b }", itemsOf(frames("k", a, white, curly(white, x, colon, y, white), white, num(1, "%"), white, comma, white, b))},
		{"@keyframes k{;!)@media}", itemsOf(frames("k", semi, sign("!"), sign(")"), atMedia))},
		{"@keyframes k{f(})}", itemsOf(frames("k", fn("f", shut)))},
		{"@keyframes k{a", itemsOf(frames("k", a))},
		{"@keyframes k;", nil},
		{"@keyframes k", nil},
		{"@keyframes{}", nil},
		{"@keyframes {}", nil},
		{"@keyframes k l{}", nil},
		{"@keyframes k,l{}", nil},
		{"@keyframes k,{}", nil},
		{"@keyframes 'k'{}", nil},
		{"@keyframes #k{}", nil},
		{"@keyframes (k){}", nil},
		{"@keyframes k(){}", nil},
		{"@keyframes 1{}", nil},

		{"@font-face{x:y}", itemsOf(font(xy))},
		{"@font-face { X : y ; z ; --A : y ! important } ", itemsOf(font(xy, important("--A", y)))},
		{"@font-face/**/{x:y", itemsOf(font(xy))},
		{"@font-face{}", nil},
		{"@font-face{ ;x; }", nil},
		{"@font-face{a{x:y}}", nil},
		{"@font-face a{x:y}", nil},
		{"@font-face ,{x:y}", nil},
		{"@font-face ();{x:y}", nil},
		{"@font-face;{x:y}", nil},
		{"@font-face;", nil},
		{"@font-face x:y", nil},
		{"@font-face", nil},
	}.check(t)
	parsesVals{
		{list(atFrames, white, filled(numbered(a)), white, curly(white, white, filled(white), a, noKind, white)), itemsOf(frames("a", a, noKind))},
		{list(atFrames, a, curly(unkind(white), shut, inNoBlock)), itemsOf(frames("a", unkind(white), shut, inNoBlock))},
		{list(atFrames, name(""), curly()), nil},
		{list(atFrames, unkind(a), curly()), nil},
		{list(atFrames, a, noKind, curly()), nil},
		{list(atFont, white, filled(white), block), itemsOf(font(xy))},
		{list(atFont, unkind(white), block), nil},
		{list(atFont, noKind, block), nil},
		{list(atFont, curly(x, colon, shut)), itemsOf(font(decl("x", shut)))},
	}.check(t)
}

// The words of the chapter, the bound of the frames' values: 56 blocks one inside the other.
func TestDeepFrames(t *testing.T) {
	for depth := range 61 {
		for kind := api.ValRound; kind <= api.ValFunc; kind++ {
			l := nested(kind, depth)
			want := itemsOf(frames("a", l...), ruleB)
			if depth > 56 {
				want = itemsOf(ruleB)
			}
			parsesVals{
				{list(atFrames, a, curly(l...), b, block), want},
				{list(atFrames, a, curly(slices.Concat(list(white), l, list(white))...), b, block), want},
			}.check(t)
		}
		text := "@layer l{@media (min-width:0px){@keyframes a{" + strings.Repeat("(", depth) + strings.Repeat(")", depth) + "}b{x:y}}}"
		l, err := sheet.Parse(text)
		switch {
		case depth > 57:
			if err != api.ErrDeep || len(l) != 0 {
				t.Errorf("depth %d: error %d", depth, err)
			}
		case err != api.OK || len(l) != 1 || len(l[0].L) != 1 || len(l[0].L[0].L) != map[bool]int{true: 2, false: 1}[depth <= 56]:
			t.Errorf("depth %d: %s, error %d", depth, tellItems(l), err)
		}
	}
}

// The widths of media blocks, each by itself.
func TestWidths(t *testing.T) {
	for _, n := range []int{-api.MaxNum, -2, -1, 0, 1, 2, 99999, 100000, 100001, api.MaxNum} {
		width := strconv.Itoa(n) + "px"
		var least, most []api.Item
		if 0 <= n && n <= 100000 {
			least, most = itemsOf(media(n, -1, ruleA)), itemsOf(media(0, n, ruleA))
		}
		parses{
			{"@media (min-width:" + width + "){a{x:y}}", least},
			{"@media (max-width:" + width + "){a{x:y}}", most},
		}.check(t)
	}
}
