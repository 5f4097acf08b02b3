package spell_test

import (
	"slices"
	"strings"
	"testing"

	"winnowing/api"
	"winnowing/probe"
	"winnowing/sels"
	"winnowing/spell"
	"winnowing/split"
)

// checkBack: P5.4, on a list that is valid.
func checkBack(t *testing.T, l []api.Complex) {
	t.Helper()
	if !sels.May(l) {
		t.Fatalf("%s is not valid", tellSels(l))
	}
	s := spell.List(l)
	back, err := sels.Read(s)
	if err != api.OK || tellSels(back) != tellSels(l) {
		t.Fatalf("%q is read back as %s, error %d, not as %s", s, tellSels(back), err, tellSels(l))
	}
	if again := spell.List(back); again != s {
		t.Fatalf("%q is printed again as %q", s, again)
	}
}

// edges is one or more valid simple selectors of each kind, with the edges of its fields.
func edges() []api.Simple {
	l := []api.Simple{
		any1, tag("a"), tag("--"), tag("-z_9\xff"), tag("n"), tag("before"), id("a"), id("1A"), id("-"), id("--"), class("A"), class("--1"), class("-\x80"), has("A"), has("-a"),
		is("A", "b"), is("a", ""), is("a", "'"), is("a", `"`), is("--", "A b]/*\\\x00\xff"), is("a", `]"/*`), is("a", "a-1"),
		state("hover"), state("focus"), state("active"), state("checked"), root, empty,
	}
	for _, a := range []int{-api.MaxNth, -1000, -1, 0, 1, 10, api.MaxNth} {
		for _, b := range []int{-api.MaxNth, -999, -1, 0, 1, 10, api.MaxNth} {
			l = append(l, nthChild(a, b))
		}
	}
	for _, x := range l {
		l = append(l, not(x))
	}
	return l
}

// isElement tells of what stands only at the beginning of a compound selector.
func isElement(x api.Simple) bool {
	return x.Kind == api.SimAny || x.Kind == api.SimTag
}

// P5.4, any two simple selectors beside each other, in every place.
func TestPairsReadBack(t *testing.T) {
	for _, x := range edges() {
		checkBack(t, one(x))
		checkBack(t, selsOf(pseudo("before", part(first, x)), pseudo("after", part(first, x), part(api.CombIn))))
		for _, y := range edges() {
			if !isElement(y) {
				checkBack(t, one(x, y))
			}
			var l []api.Complex
			for comb := api.CombIn; comb <= api.CombLater; comb++ {
				l = append(l, complexOf(part(first, x), part(comb, y)), pseudo("after", part(first, y), part(comb, x), part(comb)))
			}
			checkBack(t, l)
		}
	}
}

// P5.4, lists of the greatest size that there is.
func TestGreatestReadBack(t *testing.T) {
	p := part(api.CombIn, slices.Repeat([]api.Simple{not(is("a", `b"`))}, api.MaxSimple)...)
	parts := slices.Repeat([]api.Part{p}, api.MaxParts)
	parts[0].Comb = api.CombNone
	checkBack(t, slices.Repeat(selsOf(pseudo("before", parts...)), api.MaxList))
	long := strings.Repeat("a-", 20000)
	checkBack(t, one(tag(long), id(long), class(long), has(long), is(long, long)))
}

// P5.1 and P5.4: all numbers of nth-child, each with some others.
func TestNthReadBack(t *testing.T) {
	check := func(a, b int) {
		v, _ := split.Read(spell.Nth(a, b))
		if gotA, gotB, err := sels.Nth(v); err != api.OK || gotA != a || gotB != b {
			t.Fatalf("Nth(%d, %d) = %q is read back as %d, %d, error %d", a, b, spell.Nth(a, b), gotA, gotB, err)
		}
	}
	for n := -api.MaxNth; n <= api.MaxNth; n++ {
		for _, other := range []int{-api.MaxNth, -1, 0, 1, api.MaxNth} {
			check(n, other)
			check(other, n)
		}
	}
}

// P5.4, on valid selectors that nobody chose.
func TestWildReadBack(t *testing.T) {
	w := probe.NewWild(7)
	valid := 0
	for range 60000 {
		if l := w.Sels(); sels.May(l) {
			checkBack(t, l)
			valid++
		}
	}
	if valid < 5000 {
		t.Errorf("only %d valid lists", valid)
	}
}

// P5.4, on what is read from texts.
func TestTextsReadBack(t *testing.T) {
	words := []string{"a", "B", ".a", "#b", "*", " ", ">", "+", "~", ",", "::before", ":hover", ":root", ":first-child", ":not(", ":nth-child(", ")", "2n+1", "-3n-2", "odd", "[x]", "[x=", "y]", "'z\"']", "/**/", "\x80", "-"}
	var c probe.Chance = 13
	read := 0
	for range 100000 {
		var b strings.Builder
		for range 1 + c.Below(8) {
			b.WriteString(words[c.Below(len(words))])
		}
		if l, err := sels.Read(b.String()); err == api.OK {
			checkBack(t, l)
			read++
		}
	}
	if read < 3000 {
		t.Errorf("only %d texts are selectors", read)
	}
}

func FuzzReadBack(f *testing.F) {
	f.Add("a > .b:hover, #c::before")
	f.Add("*[x = 'y\"']:not(:nth-child(2n-1))~d")
	f.Fuzz(func(t *testing.T, s string) {
		if l, err := sels.Read(s); err == api.OK {
			checkBack(t, l)
		}
	})
}
