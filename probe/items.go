package probe

import (
	"math"
	"strconv"
	"strings"

	"winnowing/api"
)

func Layer(name string, l ...api.Item) api.Item {
	return api.Item{Kind: api.ItemLayer, Names: []string{name}, L: l}
}

func Rule(l []api.Complex, d ...api.Decl) api.Item {
	return api.Item{Kind: api.ItemRule, Sels: l, Decls: d}
}

func Media(least, most int, l ...api.Item) api.Item {
	return api.Item{Kind: api.ItemMedia, Min: least, Max: most, L: l}
}

// Frames are of one name. Its values come behind it.
func Frames(name string, l ...api.Val) api.Item {
	return api.Item{Kind: api.ItemFrames, Names: []string{name}, Vals: l}
}

func Names(l ...string) api.Item     { return api.Item{Kind: api.ItemNames, Names: l} }
func Font(d ...api.Decl) api.Item    { return api.Item{Kind: api.ItemFont, Decls: d} }
func Items(l ...api.Item) []api.Item { return l }

// NestedItems is items of one kind, each but the innermost with the next one in it.
func NestedItems(kind, depth int) []api.Item {
	var l []api.Item
	for range depth {
		l = Items(api.Item{Kind: kind, Names: []string{"a"}, Max: 1, L: l})
	}
	return l
}

// TellItems writes every field of items, so that two lists are equal just if they are told alike.
// It is written apart from sheet.Same, which it tests. Empty and nil lists are told alike.
func TellItems(l []api.Item) string {
	var b strings.Builder
	tellItemsInto(&b, l)
	return b.String()
}

func tellItemsInto(b *strings.Builder, l []api.Item) {
	for _, x := range l {
		b.WriteString(strconv.Itoa(x.Kind) + " " + strconv.Itoa(x.Min) + " " + strconv.Itoa(x.Max) + " (")
		for _, name := range x.Names {
			b.WriteString(strconv.Quote(name) + " ")
		}
		b.WriteString(TellSels(x.Sels) + ") (" + TellDecls(x.Decls) + ") {")
		tellInto(b, x.Vals)
		b.WriteString("} {")
		tellItemsInto(b, x.L)
		b.WriteString("},")
	}
}

// OverwriteItems clears every item, so that whoever shares memory with l is told differently.
func OverwriteItems(l []api.Item) {
	for i := range l {
		OverwriteSels(l[i].Sels)
		OverwriteDecls(l[i].Decls)
		Overwrite(l[i].Vals)
		clear(l[i].Names)
		OverwriteItems(l[i].L)
		l[i] = api.Item{}
	}
}

// WriteBehindItems writes behind the end of each list, where another one must not lie.
func WriteBehindItems(l []api.Item) {
	_ = append(l, Names("x"), Names("y"))
	for _, x := range l {
		_ = append(x.Names, "x", "y")
		WriteBehindSels(x.Sels)
		WriteBehindDecls(x.Decls)
		WriteBehind(x.Vals)
		WriteBehindItems(x.L)
	}
}

// Items: items of every kind and none, with any fields, and with any items in them, to a depth, of which some are valid.
func (w *Wild) Items(depth int) []api.Item {
	l := make([]api.Item, pick(w, 0, 1, 1, 1, 2, 3))
	for i := range l {
		l[i] = w.tameItem(depth)
		if w.Below(5) == 0 {
			w.spoil(&l[i], depth)
		}
	}
	return l
}

// tameItem has those fields alone that belong to its kind, and mostly good ones.
func (w *Wild) tameItem(depth int) api.Item {
	var inner []api.Item
	if depth > 0 {
		inner = w.Items(depth - 1)
	}
	rule := Rule(One(w.tameSimple()), w.tameDecls()...)
	if depth == 0 || w.Below(2) == 0 {
		return pick(w, rule, Font(w.tameDecls()...), Frames(w.itemName(), w.tameVals()...), Names(w.itemNames()...))
	}
	least, most := pick(w, 0, 0, 1, api.MaxWidth), pick(w, -1, -1, 0, 1, api.MaxWidth)
	return pick(w, Layer(w.itemName(), inner...), Media(least, most, inner...), Media(least, most, append(inner, rule)...))
}

// spoil sets one field to anything.
func (w *Wild) spoil(x *api.Item, depth int) {
	switch w.Below(8) {
	case 0:
		x.Kind = pick(w, math.MinInt, -1, 0, 1, 2, 3, 4, 5, 6, 7, math.MaxInt)
	case 1:
		x.Sels = w.Sels()
	case 2:
		x.Decls = w.Decls()
	case 3:
		x.Names = w.itemNames()
	case 4:
		x.Min = pick(w, math.MinInt, -1, 0, 5, api.MaxWidth+1, math.MaxInt)
	case 5:
		x.Max = pick(w, math.MinInt, -2, -1, 0, 5, api.MaxWidth+1, math.MaxInt)
	case 6:
		x.Vals = w.Vals(2)
	case 7:
		if depth > 0 {
			x.L = w.Items(depth - 1)
		}
	}
}

func (w *Wild) tameSimple() api.Simple {
	return pick(w, Any(), Tag("a"), ID("a"), Class("b"), Has("a"), Is("a", "b c"), InState("hover"), Nth(2, 1), Root(), Not(Tag("a")))
}

func (w *Wild) tameDecls() []api.Decl {
	l := make([]api.Decl, pick(w, 1, 1, 2, 3))
	for i := range l {
		l[i] = api.Decl{Name: pick(w, "a", "b", "--A"), L: w.tameVals(), Important: w.Below(3) == 0}
		l[i].L = append(l[i].L, Name("a"))
	}
	return l
}

// tameVals has some where a closing brace ends the block around it too soon.
func (w *Wild) tameVals() []api.Val {
	l := List(Name("a"))
	for range w.Below(4) {
		l = append(l, pick(w, Name("b"), White(), Sign(","), Sign(")"), Fn("f", Sign("}")), Curly(Name("a"), Sign(";")), Round(White(), Sign("}"))))
	}
	if w.Below(20) == 0 {
		l = append(l, pick(w, Sign("}"), White(), Sign("!"), Sign(";"), Name(""), Sign("{")))
	}
	return append(l, Name("c"))[w.Below(2):]
}

func (w *Wild) itemName() string {
	return pick(w, "a", "a", "b", "B", "--", "and", "\x80\xff", pick(w, "a", "", "1", "a b", "-", "a,", "\n", "a("))
}

func (w *Wild) itemNames() []string {
	l := make([]string, pick(w, 0, 1, 1, 1, 2, 3, api.MaxNames, api.MaxNames+1))
	for i := range l {
		l[i] = w.itemName()
		if len(l) > 3 {
			l[i] = "a"
		}
	}
	return l
}
