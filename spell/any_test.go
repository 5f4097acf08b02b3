package spell_test

import (
	"strings"
	"testing"

	"winnowing/api"
	"winnowing/probe"
	"winnowing/spell"
)

// R1 and P1: no call panics, whatever it is given. R3: a call tells the same again. R4: the arguments stay.
func TestAnyArguments(t *testing.T) {
	w := probe.NewWild(1)
	for range 20000 {
		l := w.Sels()
		told, s := tellSels(l), spell.List(l)
		for _, c := range l {
			spell.Complex(c)
			for _, p := range c.Parts {
				for _, x := range p.L {
					spell.Simple(x)
					spell.Nth(x.A, x.B)
				}
			}
		}
		if tellSels(l) != told || spell.List(l) != s {
			t.Fatalf("%s is told as %s afterwards, and printed as %q, then %q", told, tellSels(l), s, spell.List(l))
		}
	}
}

// R4: what stands behind the ends of arguments stays, too.
func TestBehindArguments(t *testing.T) {
	in := []api.Simple{tag("a"), tag("spare")}
	simples := []api.Simple{not(in[:1]...), is("b", `"`), class("spare")}
	parts := []api.Part{part(first, simples[:2]...), part(api.CombIn, simples[:1]...), part(api.CombNext, id("spare"))}
	l := []api.Complex{pseudo("before", parts[:2]...), complexOf(parts[:1]...), pseudo("spare")}
	all := selsOf(complexOf(parts...), l[0], l[1], l[2], complexOf(part(first, simples...)), complexOf(part(first, in...)))
	told := tellSels(all)
	if got, want := spell.List(l[:2]), `:not(a)[b='"'] :not(a)::before,:not(a)[b='"']`; got != want {
		t.Errorf("List is %q, want %q", got, want)
	}
	if tellSels(all) != told {
		t.Error("an argument changed")
	}
}

// R5: empty and nil lists are printed alike.
func TestEmptyIsNil(t *testing.T) {
	for _, l := range [][]api.Simple{nil, {}} {
		if spell.Simple(not(l...)) != ":not()" || spell.List(one(l...)) != "" {
			t.Error("no simple selectors")
		}
	}
	for _, l := range [][]api.Part{nil, {}} {
		if spell.Complex(complexOf(l...)) != "" || spell.Complex(pseudo("x", l...)) != "::x" {
			t.Error("no parts")
		}
	}
	for _, l := range [][]api.Complex{nil, {}} {
		if spell.List(l) != "" {
			t.Error("no selectors")
		}
	}
}

// R1: the time that long lists and deep selectors take grows with their size alone.
func TestLongAndDeep(t *testing.T) {
	const n = 200000
	repeat := func(s string) string { return strings.Repeat(s, n) }
	simples := make([]api.Simple, n)
	parts := make([]api.Part, n)
	list := make([]api.Complex, n)
	for i := range n {
		simples[i] = class("a")
		parts[i] = part(api.CombIn, any1)
		list[i] = pseudo("b", parts[:1]...)
	}
	name := repeat("\xff")
	for i, c := range [][2]string{
		{spell.List(one(simples...)), repeat(".a")},
		{spell.Simple(not(simples...)), ":not(" + repeat(".a") + ")"},
		{spell.Complex(complexOf(parts...)), repeat(" *")},
		{spell.List(list), strings.TrimSuffix(repeat(" *::b,"), ",")},
		{spell.List(make([]api.Complex, n+1)), repeat(",")},
		{spell.List(selsOf(pseudo(name, part(first, tag(name), is(name, name))))), name + "[" + name + `="` + name + `"]::` + name},
	} {
		if c[0] != c[1] {
			t.Errorf("case %d: %d bytes, want %d", i, len(c[0]), len(c[1]))
		}
	}
	const levels = 1 << 16
	want := strings.Repeat(":not(", levels) + "a" + strings.Repeat(")", levels)
	if deep := probe.NestedNot(levels); spell.Simple(deep) != want || spell.List(one(deep)) != want {
		t.Error("selectors in selectors")
	}
}
