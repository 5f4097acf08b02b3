package weight_test

import (
	"slices"
	"testing"

	"winnowing/api"
	"winnowing/probe"
	"winnowing/weight"
)

// R1 and P1: no call panics, whatever it is given. R3: a call tells the same again. R4: the arguments stay.
func TestAnyArguments(t *testing.T) {
	w := probe.NewWild(2)
	for range 20000 {
		l := w.Sels()
		told := tellSels(l)
		var weighed, again []weights
		for _, c := range l {
			weighed = append(weighed, weight.Of(c))
		}
		for _, c := range l {
			again = append(again, weight.Of(c))
		}
		if tellSels(l) != told || !slices.Equal(weighed, again) {
			t.Fatalf("%s is told as %s afterwards, and weighs %v, then %v", told, tellSels(l), weighed, again)
		}
		greatest := weight.Max(weighed...)
		if !slices.Equal(weighed, again) || weight.Max(weighed...) != greatest {
			t.Fatalf("%v is %v afterwards", again, weighed)
		}
	}
}

// R4: what stands behind the ends of arguments is neither counted nor changed.
func TestBehindArguments(t *testing.T) {
	in := []api.Simple{tag("a"), tag("spare")}
	simples := []api.Simple{not(in[:1]...), is("b", "c"), class("spare")}
	parts := []api.Part{part(first, simples[:2]...), part(api.CombNext, id("spare"))}
	all := selsOf(complexOf(parts...), compound(simples...), compound(in...))
	told := tellSels(all)
	selectors{{complexOf(parts[:1]...), weights{0, 1, 1}}}.check(t)
	l := []weights{{1, 0, 0}, {0, 2, 0}, {3, 0, 0}}
	if got := weight.Max(l[:2]...); got != (weights{1, 0, 0}) {
		t.Errorf("Max is %v", got)
	}
	if tellSels(all) != told || !slices.Equal(l, []weights{{1, 0, 0}, {0, 2, 0}, {3, 0, 0}}) {
		t.Error("an argument changed")
	}
}

// R5: empty and nil lists weigh the same.
func TestEmptyIsNil(t *testing.T) {
	for _, l := range [][]api.Simple{nil, {}} {
		selectors{{compound(l...), weights{}}, {compound(not(l...)), weights{}}}.check(t)
	}
	for _, l := range [][]api.Part{nil, {}} {
		selectors{{complexOf(l...), weights{}}, {pseudo("x", l...), weights{0, 0, 1}}}.check(t)
	}
	for _, l := range [][]weights{nil, {}} {
		if weight.Max(l...) != (weights{}) {
			t.Error("no weights")
		}
	}
}

// R1: the time that long lists and deep selectors take grows with their size alone.
func TestLongAndDeep(t *testing.T) {
	const n = 200000
	const levels = 1 << 16
	simples := slices.Repeat([]api.Simple{id("a"), class("b"), tag("c"), class("d")}, n)
	parts := slices.Repeat([]api.Part{part(api.CombIn, tag("a"))}, n)
	selectors{
		{compound(simples...), weights{n, 2 * n, n}},
		{compound(not(simples...)), weights{n, 2 * n, n}},
		{pseudo("x", parts...), weights{0, 0, n + 1}},
		{compound(probe.NestedNot(levels)), weights{0, 0, 1}},
	}.check(t)
	l := make([]weights, n)
	for i := range l {
		l[i] = weights{0, i * 7919 % n, 0}
	}
	if got := weight.Max(l...); got != (weights{0, n - 1, 0}) {
		t.Errorf("Max is %v", got)
	}
}
