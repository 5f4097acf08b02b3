package sheet_test

import (
	"slices"
	"strconv"
	"strings"
	"testing"

	"winnowing/api"
	"winnowing/probe"
	"winnowing/sheet"
)

// R1 and P1: no call panics, whatever it is given. R3: a call tells the same again. R4: the arguments stay.
func TestAnyArguments(t *testing.T) {
	w := probe.NewWild(5)
	for range 3000 {
		v, l, s := w.Vals(3), w.Items(3), w.Bytes("a@;:,{}() \"'/*-<\n\xff", 40)
		v = slices.Concat(v, sheet.Vals(l...), w.Vals(2))
		told, toldItems := tell(v), tellItems(l)
		tellCalls := func() string {
			parsed, err := sheet.Parse(s)
			items := sheet.Items(v)
			var b strings.Builder
			b.WriteString(tellItems(parsed) + strconv.Itoa(int(err)) + tellItems(items) + tell(sheet.Vals(l...)) + sheet.Text(l))
			for _, holds := range []bool{sheet.May(l), sheet.May(items), sheet.Same(l, items), sheet.Same(l, l)} {
				b.WriteString(strconv.FormatBool(holds))
			}
			return b.String()
		}
		first := tellCalls()
		if again := tellCalls(); again != first {
			t.Fatalf("%s, then %s", first, again)
		}
		if tell(v) != told || tellItems(l) != toldItems {
			t.Fatalf("%s or %s is otherwise afterwards", told, toldItems)
		}
	}
}

// R4: the arguments stay as they were, also behind their ends.
func TestBehindArguments(t *testing.T) {
	v := append(vals(t, anyText), shut, a)
	l := append(sheet.Items(v), names("spare"), ruleA)
	told, toldItems := tell(v), tellItems(l)
	for end := range v {
		sheet.Items(v[:end])
	}
	for end := range l {
		sheet.Vals(l[:end]...)
		sheet.Text(l[:end])
		sheet.May(l[:end])
		sheet.Same(l[:end], l[end:])
	}
	if tell(v) != told || tellItems(l) != toldItems {
		t.Error("an argument changed")
	}
}

// R4: no list of a result shares memory with another one, or with an argument. R3: no call keeps what it told.
func TestResultsAreNew(t *testing.T) {
	v := vals(t, anyText)
	told := tell(v)
	l := sheet.Items(v)
	if len(l) != 5 {
		t.Fatalf("%d items", len(l))
	}
	toldItems := tellItems(l)
	probe.WriteBehindItems(l)
	if tellItems(l) != toldItems || tell(v) != told {
		t.Error("behind a list of Items stands another one")
	}
	written := sheet.Vals(append(l, l...)...)
	toldVals := tell(written)
	probe.WriteBehind(written)
	if tell(written) != toldVals || tellItems(l) != toldItems {
		t.Error("behind a list of Vals stands another one")
	}
	probe.OverwriteItems(l)
	if tell(v) != told || tell(written) != toldVals || tellItems(sheet.Items(v)) != toldItems {
		t.Error("a result of Items shares memory")
	}
	for i := range l {
		l = sheet.Items(v)
		probe.OverwriteItems(l[:i])
		if !strings.HasSuffix(toldItems, tellItems(l[i:])) {
			t.Error("two items of Items share memory")
		}
	}
	l = sheet.Items(v)
	written = sheet.Vals(append(l, l...)...)
	half := len(written) / 2
	toldVals = tell(written[half:])
	probe.Overwrite(written[:half])
	if tell(written[half:]) != toldVals || tellItems(l) != toldItems {
		t.Error("a result of Vals shares memory")
	}
}

// R5: empty and nil lists are alike.
func TestEmptyIsNil(t *testing.T) {
	for _, v := range [][]api.Val{nil, {}} {
		block := api.Val{Kind: api.ValCurly, L: v}
		parsesVals{
			{v, nil},
			{list(a, block), nil},
			{list(atLayer, a, block), itemsOf(layer("a"))},
			{list(atFrames, a, block), itemsOf(frames("a"))},
			{list(atMedia, least3, block), nil},
			{list(atFont, block), nil},
		}.check(t)
		if !sheet.May(itemsOf(frames("a", v...))) || !sheet.Same(itemsOf(frames("a", v...)), itemsOf(frames("a"))) {
			t.Error("no values in an item")
		}
	}
	for _, l := range [][]api.Item{nil, {}} {
		if len(sheet.Vals(l...)) != 0 || sheet.Text(l) != "" || !sheet.May(l) || !sheet.Same(l, nil) || !sheet.Same(nil, l) {
			t.Error("no items")
		}
		if !sheet.May(itemsOf(layer("a", l...))) || sheet.May(itemsOf(media(0, -1, l...))) || !sheet.Same(itemsOf(layer("a", l...)), itemsOf(layer("a"))) {
			t.Error("no items in an item")
		}
	}
	full := api.Item{Kind: api.ItemLayer, Names: []string{"a"}, Sels: []api.Complex{}, Decls: []api.Decl{}, Vals: list(), L: itemsOf()}
	if !sheet.May(itemsOf(full)) || !sheet.Same(itemsOf(full), itemsOf(layer("a"))) {
		t.Error("empty lists in an item")
	}
}

// R1: the time that long sheets take grows with their size alone.
func TestLong(t *testing.T) {
	const n = 30000
	for s, want := range map[string]int{
		"a{x:y}": n, "@layer a;": n, "@layer a{b{x:y}}": n, "@keyframes k{a}": n, "@font-face{x:y}": n, "@media (min-width:3px){a{x:y}}": n,
		";": 0, "a ": 0, "@x;": 0, "@x ": 0, "@x{}": 0, "@layer a,": 0, "@layer a b": 0, "{}": 0, "@media ": 0, "@keyframes ": 0, "a{x:y};": 1, " @layer": 0,
	} {
		l, err := sheet.Parse(strings.Repeat(s, n))
		if err != api.OK || len(l) != want || !sheet.May(l) {
			t.Errorf("%q: %d items, error %d", s, len(l), err)
			continue
		}
		if back, err := sheet.Parse(sheet.Text(l)); err != api.OK || !sheet.Same(back, l) {
			t.Errorf("%q: %d items are read back", s, len(back))
		}
	}
	for _, s := range []string{
		"@layer " + strings.Repeat("a,", n) + "a;b{x:y}",
		"@media " + strings.Repeat("(min-width:3px) and ", n) + "(x){}b{x:y}",
		strings.Repeat("a,", n) + "a{x:y}b{x:y}",
		strings.Repeat("a ", n) + "a{x:y}b{x:y}",
		"@font-face " + strings.Repeat("a ", n) + "{x:y}b{x:y}",
		strings.Repeat(" ", n) + "b{x:y}",
	} {
		if l, err := sheet.Parse(s); err != api.OK || tellItems(l) != tellItems(itemsOf(ruleB)) {
			t.Errorf("%q..: %s", s[:20], tellItems(l))
		}
	}
}

// around is a list of values, so many times put into a block behind others.
func around(inner []api.Val, levels int, ahead ...api.Val) []api.Val {
	for range levels {
		inner = append(slices.Clone(ahead), curly(inner...))
	}
	return inner
}

// R1: the same of values and items that stand deep one inside the other.
func TestDeep(t *testing.T) {
	const levels = 1 << 16
	for _, ahead := range [][]api.Val{{atLayer, a}, {atMedia, least3}, {atFrames, a}, {atFont}, {a}, {atLayer}, {at("x")}, nil} {
		deep := around(list(a, block), levels, ahead...)
		if l := sheet.Items(append(deep, b, block)); len(l) == 0 || tellItems(l[len(l)-1:]) != tellItems(itemsOf(ruleB)) {
			t.Errorf("%s: %d items", tell(ahead), len(l))
		}
	}
	for kind := api.ItemRule; kind <= api.ItemFont; kind++ {
		l, more := probe.NestedItems(kind, levels), probe.NestedItems(kind, levels+1)
		if sheet.May(l) || !sheet.Same(l, l) || sheet.Same(l, more) || len(sheet.Vals(l...)) == 0 || len(sheet.Text(l)) == 0 {
			t.Errorf("kind %d, %d levels", kind, levels)
		}
	}
	for kind := api.ValRound; kind <= api.ValFunc; kind++ {
		deep := nested(kind, levels)
		for _, x := range itemsOf(frames("a", deep...), rule(one(tag("a")), decl("x", deep...)), font(decl("x", deep...))) {
			l := itemsOf(layer("l", media(0, -1, x)))
			if sheet.May(l) || !sheet.Same(l, l) || len(sheet.Items(append(sheet.Vals(l...), b, block))) != 2 {
				t.Errorf("values of kind %d in an item of kind %d", kind, x.Kind)
			}
		}
		l := sheet.Items(slices.Concat(list(atMedia, white), deep, list(white, curly(), atLayer, white), deep, list(semi), deep, list(curly(), b, block)))
		if len(l) == 0 || tellItems(l[len(l)-1:]) != tellItems(itemsOf(ruleB)) {
			t.Errorf("preludes of kind %d", kind)
		}
	}
	if l := itemsOf(rule(one(probe.NestedNot(levels)), xy)); sheet.May(l) || !sheet.Same(l, l) || tell(sheet.Vals(l...)) != tell(list(block)) {
		t.Error("deep selectors")
	}
}
