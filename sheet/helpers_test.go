package sheet_test

import (
	"testing"

	"winnowing/api"
	"winnowing/nest"
	"winnowing/probe"
	"winnowing/sheet"
	"winnowing/toks"
)

// Short names for what the tables of the tests are made of.
var (
	tok, name, sign, white   = probe.Tok, probe.Name, probe.Sign, probe.White()
	round, square, curly, fn = probe.Round, probe.Square, probe.Curly, probe.Fn
	list, nested, tell       = probe.List, probe.Nested, probe.Tell
	decl, important          = probe.Decl, probe.Important
	tag, one, selsOf         = probe.Tag, probe.One, probe.Sels
	rule, media, layer       = probe.Rule, probe.Media, probe.Layer
	names, frames, font      = probe.Names, probe.Frames, probe.Font
	itemsOf, tellItems       = probe.Items, probe.TellItems
	colon, comma, semi, shut = sign(":"), sign(","), sign(";"), sign("}")
	a, b, c, x, y            = name("a"), name("b"), name("c"), name("x"), name("y")
	noKind, inNoBlock        = api.Val{}, api.Val{Kind: 9, L: list(semi)}
	xy                       = decl("x", y)
	ruleA, ruleB, ruleC      = rule(one(tag("a")), xy), rule(one(tag("b")), xy), rule(one(tag("c")), xy)
	block                    = curly(x, colon, y)
	atMedia, atLayer         = at("media"), at("layer")
	atFrames, atFont         = at("keyframes"), at("font-face")
	least3, most5            = round(name("min-width"), colon, num(3, "px")), round(name("max-width"), colon, num(5, "px"))
)

// anyText has each kind of items, wherever it may stand.
const anyText = "a,b{x:y;--A:(})!important} @media (min-width:3px){c{x:y}@font-face{x:{y}}} @layer d{@media (max-width:5px){e.f{x:y}} @keyframes g{h{x:y}}} @layer i,j;@keyframes k{l{x:y} m}"

func at(s string) api.Val            { return tok(api.Token{Kind: api.TokAt, Text: s}) }
func num(n int, unit string) api.Val { return tok(api.Token{Kind: api.TokNum, Text: unit, N: n}) }
func str(s string) api.Val           { return tok(api.Token{Kind: api.TokStr, Text: s, N: '"'}) }

// Values that are nearly another one, each with one field that is otherwise.
func numbered(v api.Val) api.Val { v.Tok.N = 1; return v }
func filled(v api.Val) api.Val   { v.L = list(semi); return v }
func unkind(v api.Val) api.Val   { v.Kind = 0; return v }

// ofKind is v as a block of that kind, with the same values in it.
func ofKind(kind int, v api.Val) api.Val { v.Kind = kind; return v }

// vals is the values of s as nest parses them, with the blanks around them.
func vals(t *testing.T, s string) []api.Val {
	t.Helper()
	l, err := nest.Parse(toks.All(s), api.MaxDeep)
	if err != api.OK {
		t.Fatalf("%q: error %d", s, err)
	}
	return l
}

// parses is a table of texts and the items that they are.
type parses []struct {
	s    string
	want []api.Item
}

func (l parses) check(t *testing.T) {
	t.Helper()
	for _, c := range l {
		if got := sheet.Items(vals(t, c.s)); tellItems(got) != tellItems(c.want) {
			t.Errorf("Items of %q: %s, want %s", c.s, tellItems(got), tellItems(c.want))
		}
		if got, err := sheet.Parse(c.s); err != api.OK || tellItems(got) != tellItems(c.want) {
			t.Errorf("Parse of %q: %s, error %d, want %s", c.s, tellItems(got), err, tellItems(c.want))
		}
	}
}

// parsesVals is the same, of values that no text may have.
type parsesVals []struct {
	l    []api.Val
	want []api.Item
}

func (l parsesVals) check(t *testing.T) {
	t.Helper()
	for _, c := range l {
		if got := sheet.Items(c.l); tellItems(got) != tellItems(c.want) {
			t.Errorf("Items of %s: %s, want %s", tell(c.l), tellItems(got), tellItems(c.want))
		}
	}
}
