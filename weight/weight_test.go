package weight_test

import (
	"math"
	"slices"
	"testing"

	"winnowing/api"
	"winnowing/probe"
	"winnowing/sels"
	"winnowing/weight"
)

// P6.1, each kind.
func TestKinds(t *testing.T) {
	selectors{
		{compound(any1), weights{}}, {compound(tag("a")), weights{0, 0, 1}}, {compound(id("a")), weights{1, 0, 0}},
		{compound(class("a")), weights{0, 1, 0}}, {compound(has("a")), weights{0, 1, 0}}, {compound(is("a", "b")), weights{0, 1, 0}},
		{compound(state("hover")), weights{0, 1, 0}}, {compound(nthChild(2, 1)), weights{0, 1, 0}}, {compound(root), weights{0, 1, 0}}, {compound(empty), weights{0, 1, 0}},
		{compound(not(any1)), weights{}}, {compound(not(tag("a"))), weights{0, 0, 1}}, {compound(not(id("a"))), weights{1, 0, 0}}, {compound(not(class("a"))), weights{0, 1, 0}},
		{compound(not(has("a"))), weights{0, 1, 0}}, {compound(not(is("a", "b"))), weights{0, 1, 0}}, {compound(not(state("hover"))), weights{0, 1, 0}},
		{compound(not(nthChild(2, 1))), weights{0, 1, 0}}, {compound(not(root)), weights{0, 1, 0}}, {compound(not(empty)), weights{0, 1, 0}},
	}.check(t)
}

// P6.1, selectors as they are read.
func TestRead(t *testing.T) {
	for _, c := range []struct {
		s    string
		want weights
	}{
		{"#a .b:not(c)", weights{1, 1, 1}}, {"*", weights{}}, {"a", weights{0, 0, 1}}, {"* > *", weights{}},
		{"a b>c+d~e", weights{0, 0, 5}}, {"#a#b #c", weights{3, 0, 0}}, {".a.b.a .c", weights{0, 4, 0}}, {"a.b#c", weights{1, 1, 1}},
		{":first-child", weights{0, 1, 0}}, {":nth-child(0)", weights{0, 1, 0}}, {":not(#a):not(.b):not(c):not(*)", weights{1, 1, 1}}, {":not(:first-child)", weights{0, 1, 0}},
		{"::before", weights{0, 0, 1}}, {"a::after", weights{0, 0, 2}}, {"#a > ::before", weights{1, 0, 1}}, {"*::after", weights{0, 0, 1}},
		{"a#b.c[d][e=f]:hover:root:empty", weights{1, 6, 1}},
		{":hover:focus:active:checked", weights{0, 4, 0}},
	} {
		l, err := sels.Read(c.s)
		if err != api.OK || len(l) != 1 {
			t.Fatalf("%q is %d selectors, error %d", c.s, len(l), err)
		}
		if got := weight.Of(l[0]); got != c.want {
			t.Errorf("the weight of %q is %v, want %v", c.s, got, c.want)
		}
	}
}

// P6.1, selectors that are not valid: what is counted is the kinds alone.
func TestInvalid(t *testing.T) {
	selectors{
		{api.Complex{}, weights{}}, {compound(), weights{}}, {pseudo("before"), weights{0, 0, 1}}, {pseudo("x"), weights{0, 0, 1}}, {pseudo("\x00", part(9, id(""))), weights{1, 0, 1}},
		{compound(api.Simple{}, api.Simple{Kind: -1}, api.Simple{Kind: 12}, api.Simple{Kind: math.MinInt}, api.Simple{Kind: math.MaxInt}), weights{}},
		{compound(api.Simple{Kind: 12, Name: "a", Value: "b", A: 1, B: 2, L: []api.Simple{id("c")}}), weights{}},
		{compound(tag("a"), tag("b"), any1, tag("a")), weights{0, 0, 3}}, {complexOf(part(first), part(1, id("a")), part(-1, class("b")), part(first, tag("c"))), weights{1, 1, 1}},
		{compound(id(""), class(""), tag(""), state("x"), nthChild(math.MinInt, math.MaxInt)), weights{1, 3, 1}},
		{compound(not()), weights{}}, {compound(not(id("a"), class("b"), tag("c"), any1, tag("d"))), weights{1, 1, 2}}, {compound(not(api.Simple{}, root)), weights{0, 1, 0}},
		{compound(not(not(tag("a")))), weights{0, 0, 1}}, {compound(not(not(), not(not(id("a")), empty), tag("b")), id("c")), weights{2, 1, 1}},
	}.check(t)
}

// P6.1: a kind's other fields do not count, and what stands in the L of any kind but a not doesn't either.
func TestOtherFields(t *testing.T) {
	for kind := -1; kind <= api.SimNot+2; kind++ {
		l := []api.Simple{id("in"), class("in"), tag("in")}
		if kind == api.SimNot {
			l = nil
		}
		x := api.Simple{Kind: kind, Name: "name", Value: "value", A: 3, B: 4, L: l}
		if got, want := weight.Of(compound(x)), weight.Of(compound(api.Simple{Kind: kind})); got != want {
			t.Errorf("kind %d weighs %v, and %v with other fields", kind, want, got)
		}
	}
}

// P6.1 against the second reading, on selectors that nobody chose.
func TestAgainstReference(t *testing.T) {
	w := probe.NewWild(3)
	seen := map[weights]bool{}
	for range 40000 {
		for _, c := range w.Sels() {
			want := reference(c)
			selectors{{c, want}}.check(t)
			seen[want] = true
		}
	}
	if len(seen) < 100 {
		t.Errorf("only %d weights", len(seen))
	}
}

// ascending is all weights of some counts, in lexicographic order.
func ascending(counts ...int) []weights {
	var l []weights
	for _, ids := range counts {
		for _, classes := range counts {
			for _, tags := range counts {
				l = append(l, weights{ids, classes, tags})
			}
		}
	}
	return l
}

// P6.1 and P6.3: where all weights of a list are less than those behind them alone, Less is a strict total order on it.
func TestLess(t *testing.T) {
	for _, l := range [][]weights{ascending(0, 1, 2, 9), ascending(math.MinInt, math.MinInt+1, -1, 0, 1, math.MaxInt-1, math.MaxInt)} {
		for i, w := range l {
			for j, v := range l {
				if w.Less(v) != (i < j) {
					t.Fatalf("%v is less than %v: %t", w, v, w.Less(v))
				}
			}
		}
	}
}

// P6.3, by its words, on the weights of selectors.
func TestOrderOfSelectors(t *testing.T) {
	w := probe.NewWild(8)
	var l []weights
	for len(l) < 80 {
		for _, c := range w.Sels() {
			l = append(l, weight.Of(c))
		}
	}
	for _, a := range l {
		for _, b := range l {
			ways := 0
			for _, holds := range []bool{a.Less(b), b.Less(a), a == b} {
				if holds {
					ways++
				}
			}
			if ways != 1 {
				t.Fatalf("%v and %v: less %t, greater %t", a, b, a.Less(b), b.Less(a))
			}
			for _, c := range l {
				if a.Less(b) && b.Less(c) && !a.Less(c) {
					t.Fatalf("%v, %v, %v are not in order", a, b, c)
				}
			}
		}
	}
}

// P6.1, Max.
func TestMax(t *testing.T) {
	low, mid, top := weights{0, 9, 9}, weights{1, 0, 0}, weights{1, 0, 1}
	for _, c := range []struct {
		l    []weights
		want weights
	}{
		{nil, weights{}}, {[]weights{}, weights{}}, {[]weights{{}}, weights{}}, {[]weights{low}, low},
		{[]weights{low, mid}, mid}, {[]weights{mid, low}, mid}, {[]weights{low, mid, top}, top}, {[]weights{top, low, mid}, top}, {[]weights{low, top, mid}, top},
		{[]weights{mid, mid, low, mid}, mid}, {[]weights{{0, 0, 5}, {0, 1, 0}, {0, 0, 6}}, weights{0, 1, 0}},
		{[]weights{{-1, 5, 5}}, weights{-1, 5, 5}}, {[]weights{{-2, 0, 0}, {-1, math.MinInt, 0}, {-1, math.MinInt, -1}}, weights{-1, math.MinInt, 0}},
		{[]weights{{math.MaxInt, 0, 0}, {math.MinInt, 0, 0}, {0, 0, 0}}, weights{math.MaxInt, 0, 0}},
	} {
		if got := weight.Max(c.l...); got != c.want {
			t.Errorf("Max of %v is %v, want %v", c.l, got, c.want)
		}
	}
}

// P6.1: Max is one of its arguments, and less than none of them, in whatever order they stand.
func TestMaxOfEach(t *testing.T) {
	probe.Each(ascending(-1, 0, 2), 3, func(l []weights) {
		got := weight.Max(l...)
		if len(l) == 0 && got == (weights{}) {
			return
		}
		if !slices.Contains(l, got) || slices.ContainsFunc(l, got.Less) {
			t.Fatalf("Max of %v is %v", l, got)
		}
	})
}
