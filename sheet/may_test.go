package sheet_test

import (
	"math"
	"slices"
	"testing"

	"winnowing/api"
	"winnowing/probe"
	"winnowing/sheet"
)

// checkMay asks of an item by itself, between others, and where an item may stand.
func checkMay(t *testing.T, x api.Item, want bool) {
	t.Helper()
	if sheet.May(itemsOf(x)) != want || sheet.May(itemsOf(ruleA, x, ruleA)) != want {
		t.Errorf("May of %s is %t", tellItems(itemsOf(x)), !want)
	}
	inLayer := want && x.Kind != api.ItemLayer && x.Kind != api.ItemNames
	if sheet.May(itemsOf(layer("l", ruleB, x))) != inLayer {
		t.Errorf("May of %s in a layer is %t", tellItems(itemsOf(x)), !inLayer)
	}
	inMedia := inLayer && x.Kind != api.ItemMedia
	if sheet.May(itemsOf(media(0, -1, ruleB, x))) != inMedia || sheet.May(itemsOf(layer("l", media(0, -1, x, ruleB)))) != inMedia {
		t.Errorf("May of %s in a media block is %t", tellItems(itemsOf(x)), !inMedia)
	}
}

// P8.3, May: the items that are valid.
func TestMay(t *testing.T) {
	for _, l := range [][]api.Item{nil, {}, {ruleA, ruleA}, {names("a"), names("a")}} {
		if !sheet.May(l) {
			t.Errorf("May of %s", tellItems(l))
		}
	}
	for _, x := range []api.Item{
		ruleA,
		rule(selsOf(probe.Pseudo("before", probe.Part(0))), xy),
		rule(slices.Repeat(one(tag("a")), 32), xy, important("--A", y), xy),
		rule(one(tag("a")), decl("x", fn("f", shut, semi), round(shut), square(shut))),
		rule(one(tag("a")), decl("x", curly(y), sign(")"), sign("]"), colon, atMedia)),
		media(0, -1, ruleA), media(0, 0, ruleA), media(5, 3, ruleA), media(100000, 100000, ruleA), media(100000, -1, ruleA, ruleA),
		media(1, 1, frames("k")), media(1, 1, font(xy)),
		layer("l"), layer("A", ruleA, ruleB), layer("--", media(0, -1, ruleA)), layer("\xff", frames("k"), font(xy)),
		names("l"), names("l", "l", "and"), names(slices.Repeat([]string{"l"}, 16)...),
		frames("k"), frames("K", semi, sign("!"), white, curly(white, round(shut))), frames("k", fn("f", shut)), frames("k", sign(")")),
		font(xy), font(xy, important("--A", y)),
	} {
		checkMay(t, x, true)
	}
}

// P8.3, May: one thing wrong at a time.
func TestMayNot(t *testing.T) {
	bad := decl("x", shut)
	for _, x := range []api.Item{
		{}, {Kind: 7}, {Kind: -1}, {Kind: math.MinInt}, {Kind: math.MaxInt},
		{Kind: 1}, {Kind: 2}, {Kind: 2, Max: -1}, {Kind: 3}, {Kind: 4}, {Kind: 5}, {Kind: 6},
		{Kind: 0, Sels: one(tag("a")), Decls: []api.Decl{xy}}, {Kind: 7, Names: []string{"a"}},

		rule(nil, xy), rule(one(tag("a"))), rule(one(tag("A")), xy), rule(one(), xy), rule(one(probe.Class("")), xy),
		rule(slices.Repeat(one(tag("a")), 33), xy),
		rule(one(tag("a")), decl("X", y)), rule(one(tag("a")), decl("x")), rule(one(tag("a")), xy, decl("x", y, semi)), rule(one(tag("a")), decl("", y)),
		rule(one(tag("a")), bad), rule(one(tag("a")), xy, bad, xy), rule(one(tag("a")), decl("x", y, shut, y)), rule(one(tag("a")), important("--A", shut)),
		rule(one(tag("a")), decl("x", numbered(shut))), rule(one(tag("a")), decl("x", noKind)), rule(one(tag("a")), decl("x", filled(y))),

		media(0, -1), media(0, -2, ruleA), media(0, 100001, ruleA), media(0, math.MinInt, ruleA), media(0, math.MaxInt, ruleA),
		media(-1, -1, ruleA), media(-1, 5, ruleA), media(100001, -1, ruleA), media(math.MinInt, -1, ruleA), media(math.MaxInt, -1, ruleA),
		media(0, -1, rule(one(tag("a")))), media(0, -1, ruleA, api.Item{}), media(0, -1, names("a")), media(0, -1, layer("a")), media(0, -1, ruleA, media(0, -1, ruleA)),

		layer(""), layer("1"), layer("a b"), layer("a{"), layer("a", rule(one(tag("a")))), layer("a", api.Item{}), layer("a", layer("b")), layer("a", ruleA, names("b")),
		layer("a", media(0, -1)), layer("a", media(0, -1, ruleA, names("a"))), layer("a", media(0, -1, media(0, -1, ruleA))),
		{Kind: api.ItemLayer, Names: []string{"a", "b"}}, {Kind: api.ItemLayer, L: itemsOf(ruleA)},

		names(), names(""), names("a", ""), names("1", "a"), names("a", "b,c"), names(slices.Repeat([]string{"l"}, 17)...), names("-"), names("@a"), names("a("),

		frames(""), frames("1"), frames("k l"), frames("'k'"), {Kind: api.ItemFrames, Names: []string{"a", "b"}}, {Kind: api.ItemFrames, Vals: list(a)},
		frames("k", white), frames("k", white, a), frames("k", a, white), frames("k", shut), frames("k", a, shut, a), frames("k", curly(shut)),
		frames("k", noKind), frames("k", inNoBlock), frames("k", filled(a)), frames("k", numbered(a)), frames("k", numbered(shut)), frames("k", name("")), frames("k", sign("(")),
		frames("k", fn("f", name("1"))), frames("k", api.Val{Kind: api.ValCurly, Tok: a.Tok}), frames("k", tok(probe.Function("f"))),

		font(), font(decl("X", y)), font(decl("x")), font(bad), font(xy, bad),
	} {
		checkMay(t, x, false)
	}
}

// P8.3, May: fields that are not empty only for some kinds.
func TestForeignFields(t *testing.T) {
	const kinds = 6
	good := [kinds]api.Item{ruleA, media(0, -1, ruleA), layer("a"), names("a"), frames("a"), font(xy)}
	fields := []struct {
		set  func(*api.Item)
		also []int // the kinds that have the field, and stay valid with it
	}{
		{func(x *api.Item) { x.Sels = one(tag("b")) }, []int{api.ItemRule}},
		{func(x *api.Item) { x.Sels = selsOf(api.Complex{}) }, nil},
		{func(x *api.Item) { x.Decls = []api.Decl{decl("b", b)} }, []int{api.ItemRule, api.ItemFont}},
		{func(x *api.Item) { x.Decls = []api.Decl{{}} }, nil},
		{func(x *api.Item) { x.Names = []string{"b"} }, []int{api.ItemLayer, api.ItemNames, api.ItemFrames}},
		{func(x *api.Item) { x.Names = []string{""} }, nil},
		{func(x *api.Item) { x.Vals = list(b) }, []int{api.ItemFrames}},
		{func(x *api.Item) { x.Vals = list(noKind) }, nil},
		{func(x *api.Item) { x.L = itemsOf(ruleB) }, []int{api.ItemMedia, api.ItemLayer}},
		{func(x *api.Item) { x.L = itemsOf(api.Item{}) }, nil},
		{func(x *api.Item) { x.Min = 1 }, []int{api.ItemMedia}},
		{func(x *api.Item) { x.Min = -1 }, nil},
		{func(x *api.Item) { x.Max = 1 }, []int{api.ItemMedia}},
		{func(x *api.Item) { x.Max = -1 }, []int{api.ItemMedia}},
		{func(x *api.Item) {}, []int{1, 2, 3, 4, 5, 6}},
		{func(x *api.Item) {
			*x = api.Item{Kind: x.Kind, Sels: slices.Clip(append(selsOf(), x.Sels...)), Decls: append([]api.Decl{}, x.Decls...), Names: append([]string{}, x.Names...), Min: x.Min, Max: x.Max, Vals: append(list(), x.Vals...), L: append(itemsOf(), x.L...)}
		}, []int{1, 2, 3, 4, 5, 6}},
	}
	for i, f := range fields {
		for _, x := range good {
			f.set(&x)
			if want := slices.Contains(f.also, x.Kind); sheet.May(itemsOf(x)) != want {
				t.Errorf("field %d of kind %d: May is %t", i, x.Kind, !want)
			}
		}
	}
}

// P8.3, May: the bounds of the values' depths, each inside all that may stand around it.
func TestMayDeep(t *testing.T) {
	for depth := 1; depth < 64; depth++ {
		for kind := api.ValRound; kind <= api.ValFunc; kind++ {
			deep := nested(kind, depth)
			for _, x := range itemsOf(rule(one(tag("a")), decl("x", deep...)), font(decl("x", deep...)), frames("k", deep...)) {
				l := itemsOf(x, layer("l", media(0, -1, x)))
				if sheet.May(l) != (depth <= 56) {
					t.Errorf("kind %d at depth %d", x.Kind, depth)
				}
				if back, err := sheet.Parse(sheet.Text(l)); depth <= 56 && (err != api.OK || tellItems(back) != tellItems(l)) {
					t.Errorf("kind %d at depth %d is read back %s", x.Kind, depth, tellItems(back))
				}
			}
		}
	}
}

// P8.3, Same: every field, and order and number.
func TestSame(t *testing.T) {
	full := func() api.Item { // all of it new, because the changes are made in place
		return api.Item{
			Kind: 2, Sels: one(tag("a"), probe.Class("b")), Decls: []api.Decl{decl("x", fn("f", y))}, Names: []string{"k", "l"}, Min: 3, Max: 5, Vals: list(a, curly(b)),
			L: itemsOf(rule(one(tag("c")), xy), layer("d", media(1, 2, rule(one(tag("a")), xy)))),
		}
	}
	changes := []func(*api.Item){
		func(x *api.Item) { x.Kind = 3 },
		func(x *api.Item) { x.Sels = nil },
		func(x *api.Item) { x.Sels = one(tag("a"), probe.Class("c")) },
		func(x *api.Item) { x.Sels = append(x.Sels, x.Sels...) },
		func(x *api.Item) { x.Decls = nil },
		func(x *api.Item) { x.Decls[0].Important = true },
		func(x *api.Item) { x.Decls[0].L[0].L = nil },
		func(x *api.Item) { x.Decls = append(x.Decls, xy) },
		func(x *api.Item) { x.Names = nil },
		func(x *api.Item) { x.Names = []string{"l", "k"} },
		func(x *api.Item) { x.Names = x.Names[:1] },
		func(x *api.Item) { x.Names[1] = "L" },
		func(x *api.Item) { x.Min = 4 },
		func(x *api.Item) { x.Max = -5 },
		func(x *api.Item) { x.Vals = nil },
		func(x *api.Item) { x.Vals[1].L = nil },
		func(x *api.Item) { x.Vals[0] = numbered(a) },
		func(x *api.Item) { x.L = nil },
		func(x *api.Item) { x.L = x.L[:1] },
		func(x *api.Item) { slices.Reverse(x.L) },
		func(x *api.Item) { x.L[0].Sels = one(tag("b")) },
		func(x *api.Item) { x.L[1].L[0].Max = 3 },
		func(x *api.Item) { x.L[1].L[0].L[0].Decls[0].Name = "y" },
	}
	l := itemsOf(full())
	if !sheet.Same(l, itemsOf(full())) || !sheet.Same(nil, nil) || !sheet.Same(itemsOf(ruleA, ruleB), itemsOf(ruleA, ruleB)) {
		t.Error("equal items differ")
	}
	for i, change := range changes {
		other := full()
		change(&other)
		o := itemsOf(other)
		if sheet.Same(l, o) || sheet.Same(o, l) || sheet.Same(append(l, ruleA), append(o, ruleA)) || sheet.Same(itemsOf(ruleA, l[0]), itemsOf(ruleA, other)) || !sheet.Same(o, o) {
			t.Errorf("change %d is not seen", i)
		}
	}
	if sheet.Same(l, nil) || sheet.Same(nil, l) || sheet.Same(itemsOf(ruleA, ruleA), itemsOf(ruleA)) || sheet.Same(itemsOf(ruleA, ruleB), itemsOf(ruleB, ruleA)) {
		t.Error("lists of another length or order are the same")
	}
}
