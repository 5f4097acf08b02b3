package sels_test

import (
	"strings"
	"testing"

	"winnowing/api"
	"winnowing/probe"
	"winnowing/sels"
	"winnowing/split"
)

// R1 and P1: no call panics, whatever it is given. R2: beside an error stands nothing.
func TestAnyArguments(t *testing.T) {
	w := probe.NewWild(1)
	for range 20000 {
		l := w.Vals(3)
		if a, b, err := sels.Nth(l); err != api.OK && (a != 0 || b != 0 || err != api.ErrSel) {
			t.Fatalf("Nth of %s: %d, %d, error %d", tell(l), a, b, err)
		}
		if got, err := sels.Parse(l); err != api.OK && (len(got) != 0 || err != api.ErrSel) {
			t.Fatalf("Parse of %s: %s, error %d", tell(l), tellSels(got), err)
		}
		sels.Read(w.Bytes("a.#:[]()',>\x00\xff", 30))
		a, b := w.Sels(), w.Sels()
		sels.May(a)
		sels.Same(a, b)
	}
	for _, l := range [][]api.Val{nil, {}} {
		if got, err := sels.Parse(l); err != api.ErrSel || len(got) != 0 {
			t.Error("no values are a list")
		}
	}
	for _, l := range [][]api.Complex{nil, {}} {
		if sels.May(l) || !sels.Same(l, nil) || !sels.Same(nil, l) {
			t.Error("no selectors")
		}
	}
}

// R1: the time that long lists take grows with their length alone.
func TestLong(t *testing.T) {
	const n = 40000
	for _, s := range []string{"a", "a ", " ", "a>", ">", ".a", ".", ":", "::", ",", "a,", "*", "[", "[a]", "[ ", ":not(a)", ":not(", "#a", "a::before", "a/**/", "1", "'", "2n+"} {
		long := strings.Repeat(s, n)
		if l, err := sels.Read(long); (err != api.OK || len(l) != 1) && (err != api.ErrSel || len(l) != 0) {
			t.Errorf("%q, many times: error %d", s, err)
		}
		in, _ := split.Read(":not(" + long + "):nth-child(" + long + ")[" + long + "]")
		sels.Parse(in)
		v, _ := split.Read(long)
		sels.Nth(v)
	}
	name := strings.Repeat("aB", n)
	reads{
		{name, one(tag(strings.ToLower(name)))},
		{"." + name + "[" + strings.Repeat(" ", n) + name + "='" + name + "']", one(class(name), is(name, name))},
		{strings.Repeat(" /**/", n) + "a" + strings.Repeat(" /**/", n) + "b" + strings.Repeat(" /**/", n), selsOf(complexOf(part(first, tag("a")), part(api.CombIn, tag("b"))))},
	}.check(t)
	simples := make([]api.Simple, n)
	for _, l := range [][]api.Complex{one(simples...), one(not(simples...)), selsOf(complexOf(make([]api.Part, n)...)), make([]api.Complex, n), one(class(name + "."))} {
		if sels.May(l) || !sels.Same(l, l) {
			t.Error("a long list is valid, or is not itself")
		}
	}
	if _, _, err := nthOf(t, "2n-"+strings.Repeat("1", n)); err != api.ErrSel {
		t.Error("many digits")
	}
}

// R1: the depth of values and of selectors.
func TestDeep(t *testing.T) {
	const levels = 1 << 16
	for kind := api.ValRound; kind <= api.ValFunc; kind++ {
		deep := probe.Nested(kind, levels)
		if _, err := sels.Parse(deep); err != api.ErrSel {
			t.Errorf("kind %d: error %d", kind, err)
		}
		if _, _, err := sels.Nth(deep); err != api.ErrSel {
			t.Errorf("kind %d, Nth: error %d", kind, err)
		}
	}
	nots := list(name("a"))
	for range levels {
		nots = list(sign(":"), fn("not", nots...))
	}
	if l, err := sels.Parse(nots); err != api.ErrSel || len(l) != 0 {
		t.Errorf("nots: error %d", err)
	}
	a, b, c := one(probe.NestedNot(levels)), one(probe.NestedNot(levels)), one(probe.NestedNot(levels-1))
	if sels.May(a) || !sels.Same(a, b) || sels.Same(a, c) {
		t.Error("selectors in selectors")
	}
}

// aList has every part of a selector in it.
const aList = " A.b#c > [d]:hover:nth-child(2n+1) , *[e = 'f']:not( .g )~:not([h=i])::before, :root "

// R4: the arguments stay as they were, also behind their ends.
func TestArgumentsStay(t *testing.T) {
	v, _ := split.Read(aList)
	spare := append(v, name("spare"))
	told := tell(spare)
	l, err := sels.Parse(spare[:len(v)])
	sels.Nth(spare[:len(v)])
	if err != api.OK || tell(spare) != told {
		t.Errorf("error %d, or an argument changed", err)
	}
	toldSels := tellSels(l)
	sels.May(l)
	sels.Same(l, l[:1])
	if tellSels(l) != toldSels {
		t.Error("selectors changed")
	}
}

// R3 and R4: results are new, and no list of one shares memory with another one.
func TestResultsAreNew(t *testing.T) {
	v, _ := split.Read(aList)
	told := tell(v)
	l, _ := sels.Parse(v)
	toldSels := tellSels(l)
	probe.WriteBehindSels(l)
	if tellSels(l) != toldSels {
		t.Error("behind a list stands another one")
	}
	other, _ := sels.Parse(v)
	probe.OverwriteSels(l)
	if tellSels(other) != toldSels || tell(v) != told {
		t.Error("the result shares memory")
	}
	sels.Read("a::")
	sels.Parse(list(sign(":"), fn("not")))
	if again, err := sels.Read(aList); err != api.OK || tellSels(again) != toldSels {
		t.Errorf("%s, then %s", toldSels, tellSels(again))
	}
}
