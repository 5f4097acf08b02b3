package sels_test

import (
	"math"
	"slices"
	"strings"
	"testing"

	"winnowing/api"
	"winnowing/probe"
	"winnowing/sels"
)

// validSimples is one or more of each kind, with the edges of its fields.
func validSimples() []api.Simple {
	return []api.Simple{
		any1, tag("a"), tag("--"), tag("-z_9\xff"), tag("before"), id("a"), id("1A"), id("-"), class("A"), class("--1"), has("A"), has("-a"),
		is("A", "b"), is("a", ""), is("a", "'"), is("a", `"`), is("a", "A b]/*\\\x00\xff"),
		state("hover"), state("focus"), state("active"), state("checked"),
		nthChild(0, 0), nthChild(1, -1), nthChild(api.MaxNth, api.MaxNth), nthChild(-api.MaxNth, -api.MaxNth), nthChild(0, -5), nthChild(-3, 0),
		root, empty,
	}
}

func invalidSimples() []api.Simple {
	l := []api.Simple{
		{}, {Kind: -1}, {Kind: 12}, {Kind: math.MaxInt}, {Name: "a"},
		tag(""), tag("A"), tag("aB"), tag("1"), tag("-"), tag("-1"), tag("a b"), tag("a("), tag("a."), tag("*"), tag("a\n"), tag("/**/a"),
		id(""), id("#"), id("a b"), id("a."), id("a/**/"), class(""), class("1"), class("-"), class(".a"), class("a.b"), class("a "), has(""), has("1"), has("a=b"), has(" a"),
		is("", "a"), is("1", "a"), is("a b", "c"), is("a", "'\""), is("a", "\n"), is("a", "\r"), is("a", "b\f"),
		state(""), state("HOVER"), state("hovers"), state("root"), state("first-child"), state("visited"), state("before"),
		nthChild(api.MaxNth+1, 0), nthChild(-api.MaxNth-1, 0), nthChild(0, api.MaxNth+1), nthChild(0, -api.MaxNth-1), nthChild(math.MinInt, 0), nthChild(0, math.MaxInt),
		not(), not(tag("a"), tag("a")), not(not(tag("a"))), not(api.Simple{}),
	}
	for _, x := range l {
		l = append(l, not(x))
	}
	return l
}

// P4.3, simple selectors, alone and in a not.
func TestValidSimple(t *testing.T) {
	for _, x := range validSimples() {
		for _, l := range [][]api.Complex{one(x), one(not(x)), one(any1, not(x)), selsOf(complexOf(part(first, any1), part(api.CombIn, x)))} {
			if !sels.May(l) {
				t.Errorf("%s is not valid", tellSels(l))
			}
		}
		if later := x.Kind != api.SimAny && x.Kind != api.SimTag; sels.May(one(any1, x)) != later || sels.May(one(class("a"), x, root)) != later {
			t.Errorf("%s as a later one", tellSels(one(x)))
		}
	}
	for _, x := range invalidSimples() {
		for _, l := range [][]api.Complex{one(x), one(any1, x), one(x, root), selsOf(complexOf(part(first, x), part(api.CombIn, any1)))} {
			if sels.May(l) {
				t.Errorf("%s is valid", tellSels(l))
			}
		}
	}
}

// P4.3, the fields that a kind does not mention.
func TestOtherFieldsAreEmpty(t *testing.T) {
	for _, x := range append(validSimples(), not(tag("a"))) {
		named := slices.Contains([]int{api.SimTag, api.SimID, api.SimClass, api.SimHas, api.SimIs, api.SimState}, x.Kind)
		var wrong []api.Simple
		set := func(change func(*api.Simple)) {
			y := x
			change(&y)
			wrong = append(wrong, y)
		}
		if !named {
			set(func(y *api.Simple) { y.Name = "hover" })
		}
		if x.Kind != api.SimIs {
			set(func(y *api.Simple) { y.Value = "a" })
		}
		if x.Kind != api.SimNth {
			set(func(y *api.Simple) { y.A = 1 })
			set(func(y *api.Simple) { y.B = -1 })
		}
		set(func(y *api.Simple) { y.L = append(y.L[:len(y.L):len(y.L)], tag("b")) })
		for _, y := range wrong {
			if sels.May(one(y)) || y.Kind != api.SimNot && sels.May(one(not(y))) {
				t.Errorf("%s is valid", tellSels(one(y)))
			}
		}
		y := x
		y.L = append([]api.Simple{}, y.L...)
		if !sels.May(one(y)) {
			t.Errorf("%s with an empty list is not valid", tellSels(one(y)))
		}
	}
}

// P4.3, parts, pseudo-elements and counts.
func TestValidLists(t *testing.T) {
	a, in := part(first, tag("a")), part(api.CombIn, tag("a"))
	bare, bareIn := part(first), part(api.CombIn)
	for _, c := range []struct {
		l    []api.Complex
		want bool
	}{
		{nil, false}, {selsOf(), false}, {selsOf(api.Complex{}), false}, {selsOf(pseudo("before")), false},
		{selsOf(complexOf(a)), true}, {selsOf(complexOf(a), complexOf(a)), true}, {selsOf(complexOf(a), api.Complex{}), false}, {selsOf(api.Complex{}, complexOf(a)), false},
		{selsOf(complexOf(a, in)), true}, {selsOf(complexOf(a, part(api.CombChild, any1))), true}, {selsOf(complexOf(a, part(api.CombNext, any1))), true}, {selsOf(complexOf(a, part(api.CombLater, any1))), true},
		{selsOf(complexOf(in)), false}, {selsOf(complexOf(a, a)), false}, {selsOf(complexOf(a, in, a)), false}, {selsOf(complexOf(in, in)), false},
		{selsOf(complexOf(part(-1, any1))), false}, {selsOf(complexOf(part(api.CombChild, any1))), false}, {selsOf(complexOf(a, part(-1, any1))), false}, {selsOf(complexOf(a, part(5, any1))), false}, {selsOf(complexOf(a, part(math.MaxInt, any1))), false},
		{selsOf(complexOf(bare)), false}, {selsOf(complexOf(a, bareIn)), false}, {selsOf(complexOf(bare, in)), false},
		{selsOf(pseudo("before", a)), true}, {selsOf(pseudo("after", a)), true}, {selsOf(pseudo("x", a)), false}, {selsOf(pseudo("BEFORE", a)), false}, {selsOf(pseudo("::before", a)), false}, {selsOf(pseudo("hover", bare)), false},
		{selsOf(pseudo("before", bare)), true}, {selsOf(pseudo("after", a, bareIn)), true}, {selsOf(pseudo("after", bare, in)), false}, {selsOf(pseudo("after", a, bareIn, in)), false}, {selsOf(pseudo("after", bare, bareIn)), false}, {selsOf(pseudo("after", bareIn)), false},
		{selsOf(pseudo("before", bare), complexOf(bare)), false}, {selsOf(pseudo("before", a), complexOf(a)), true},
	} {
		if sels.May(c.l) != c.want {
			t.Errorf("May of %s is %t", tellSels(c.l), !c.want)
		}
	}
	for n := range 40 {
		simples := slices.Repeat([]api.Simple{class("a")}, n)
		parts := slices.Concat([]api.Part{a}, slices.Repeat([]api.Part{in}, n))[:n]
		for i, c := range []struct {
			l    []api.Complex
			want bool
		}{
			{one(simples...), 1 <= n && n <= api.MaxSimple},
			{selsOf(pseudo("after", part(first, simples...))), n <= api.MaxSimple},
			{selsOf(complexOf(a, part(api.CombIn, simples...))), 1 <= n && n <= api.MaxSimple},
			{selsOf(complexOf(parts...)), 1 <= n && n <= api.MaxParts},
			{selsOf(pseudo("after", parts...)), 1 <= n && n <= api.MaxParts},
			{slices.Repeat(selsOf(complexOf(a)), n), 1 <= n && n <= api.MaxList},
		} {
			if sels.May(c.l) != c.want {
				t.Errorf("case %d with %d elements is %t", i, n, !c.want)
			}
		}
	}
}

// P4.3, Same: every field counts.
func TestSame(t *testing.T) {
	base := func() []api.Complex {
		x := api.Simple{Kind: 11, Name: "a", Value: "b", A: 1, B: 2, L: []api.Simple{tag("c"), not(tag("d"))}}
		return selsOf(pseudo("e", part(1, tag("f")), part(2, tag("g"), x)), complexOf(part(0)))
	}
	if !sels.Same(base(), base()) || !sels.Same(nil, selsOf()) || !sels.Same(selsOf(complexOf()), selsOf(api.Complex{Parts: []api.Part{}})) {
		t.Error("equal lists are not the same")
	}
	if !sels.Same(one(), one([]api.Simple{}...)) || !sels.Same(one(api.Simple{L: []api.Simple{}}), one(api.Simple{})) {
		t.Error("an empty list and nil are not the same")
	}
	at := func(l []api.Complex) *api.Simple { return &l[0].Parts[1].L[1] }
	for i, change := range []func([]api.Complex){
		func(l []api.Complex) { l[0].Pseudo = "x" },
		func(l []api.Complex) { l[1].Pseudo = "x" },
		func(l []api.Complex) { l[0].Parts = l[0].Parts[:1] },
		func(l []api.Complex) { l[1].Parts = nil },
		func(l []api.Complex) { l[0].Parts[0].Comb = 9 },
		func(l []api.Complex) { l[0].Parts[1].Comb = 9 },
		func(l []api.Complex) { l[0].Parts[1].L = l[0].Parts[1].L[:1] },
		func(l []api.Complex) { l[0].Parts[1].L[0].Name = "x" },
		func(l []api.Complex) { at(l).Kind = 9 },
		func(l []api.Complex) { at(l).Name = "A" },
		func(l []api.Complex) { at(l).Value = "" },
		func(l []api.Complex) { at(l).A = 2 },
		func(l []api.Complex) { at(l).B = 1 },
		func(l []api.Complex) { at(l).L = nil },
		func(l []api.Complex) { slices.Reverse(at(l).L) },
		func(l []api.Complex) { at(l).L[0].Name = "x" },
		func(l []api.Complex) { at(l).L[1].L[0].Kind = 9 },
		func(l []api.Complex) { slices.Reverse(l) },
		func(l []api.Complex) { slices.Reverse(l[0].Parts) },
	} {
		changed := base()
		change(changed)
		if sels.Same(base(), changed) || sels.Same(changed, base()) {
			t.Errorf("change %d is not seen", i)
		}
	}
	if sels.Same(base(), base()[:1]) || sels.Same(base()[:1], base()) || sels.Same(nil, base()) {
		t.Error("a shorter list is the same")
	}
}

// P4.3, Same and the telling of the tests agree on selectors that nobody chose.
func TestSameOfWild(t *testing.T) {
	w := probe.NewWild(3)
	var l [][]api.Complex
	for range 400 {
		l = append(l, w.Sels())
	}
	for _, a := range l {
		for _, b := range l {
			if sels.Same(a, b) != (tellSels(a) == tellSels(b)) {
				t.Fatalf("Same of\n%s\n%s", tellSels(a), tellSels(b))
			}
		}
	}
}

// P4.3: bytes of names and of values, one by one.
func TestBytesOfNames(t *testing.T) {
	const nameBytes = "abcdefghijklmnopqrstuvwxyzABCDEFGHIJKLMNOPQRSTUVWXYZ0123456789_-"
	for b := range 256 {
		c := string([]byte{byte(b)})
		isName := b >= 128 || strings.Contains(nameBytes, c)
		for _, x := range []struct {
			simple api.Simple
			want   bool
		}{
			{tag("a" + c), isName && (c < "A" || c > "Z")},
			{id(c), isName}, {class("a" + c), isName}, {has("a" + c), isName}, {is("a"+c, ""), isName},
			{is("a", c), c != "\n" && c != "\r" && c != "\f"},
		} {
			if sels.May(one(x.simple)) != x.want {
				t.Errorf("byte %d: %s", b, tellSels(one(x.simple)))
			}
		}
	}
}
