package nest_test

import (
	"slices"
	"strings"
	"testing"

	"winnowing/api"
	"winnowing/nest"
	"winnowing/probe"
	"winnowing/toks"
)

// R1 and P1: no call panics, whatever it is given.
func TestAnyArguments(t *testing.T) {
	for deep := -2; deep < 64; deep++ {
		nest.Parse(probe.WildTokens(), deep)
		nest.Parse(nil, deep)
	}
	w := probe.NewWild(1)
	for range 3000 {
		l := w.Vals(4)
		nest.Parse(nest.Flat(l), 1+w.Below(60))
		nest.May(l)
		nest.Depth(l)
		nest.Same(l, w.Vals(4))
	}
	if v, err := nest.Parse(nil, 1); err != api.OK || len(v) != 0 {
		t.Error("no tokens")
	}
	if len(nest.Flat(nil)) != 0 || !nest.May(nil) || nest.Depth(nil) != 0 || !nest.Same(nil, nil) {
		t.Error("no values")
	}
}

// R1: the time that long lists and deep values take grows with their size alone.
func TestLongAndDeep(t *testing.T) {
	const n = 200000
	for _, s := range []string{"a ", "()", ")", "f(a)", "([)])", "{a:b}", "[[]]"} {
		l := toks.All(strings.Repeat(s, n))
		v, err := nest.Parse(l, api.MaxDeep)
		if err != api.OK || !slices.Equal(nest.Flat(v), l) || !nest.May(v) {
			t.Errorf("%q, %d times: error %d", s, n, err)
		}
	}
	if _, err := nest.Parse(toks.All(strings.Repeat("(", n)), api.MaxDeep); err != api.ErrDeep {
		t.Errorf("error %d", err)
	}
	const levels = 1 << 16
	for kind := api.ValRound; kind <= api.ValFunc; kind++ {
		v, w := nested(kind, levels), nested(kind, levels+1)
		if len(nest.Flat(v)) != 2*levels || nest.Depth(v) != levels || nest.May(v) || !nest.Same(v, nested(kind, levels)) || nest.Same(v, w) {
			t.Errorf("kind %d, %d levels", kind, levels)
		}
	}
}

// R4: the arguments stay as they were, also behind their ends.
func TestArgumentsStay(t *testing.T) {
	l := append(toks.All("a(b{c}]) ("), probe.WildTokens()...)
	spare := append(slices.Clone(l), ident("spare"))
	before := slices.Clone(spare)
	nest.Parse(spare[:len(l)], api.MaxDeep)
	nest.Parse(spare[:len(l)], 1)
	if !slices.Equal(spare, before) {
		t.Error("Parse changed its argument")
	}
	w := probe.NewWild(21)
	for range 200 {
		v := append(w.Vals(3), name("spare"))
		told := tell(v)
		arg := v[:len(v)-1]
		nest.Flat(arg)
		nest.May(arg)
		nest.Depth(arg)
		nest.Same(arg, arg)
		if tell(v) != told {
			t.Error("values changed")
		}
	}
}

// R4: no list of a result shares memory with another one, or with an argument.
func TestResultsAreNew(t *testing.T) {
	l := toks.All("a(b[c]d)e(f)g[h")
	kept := slices.Clone(l)
	first, _ := nest.Parse(l, api.MaxDeep)
	told := tell(first)
	second, _ := nest.Parse(l, api.MaxDeep)
	probe.Overwrite(second)
	flat := nest.Flat(first)
	for i := range flat {
		flat[i] = api.Token{}
	}
	if tell(first) != told || !slices.Equal(l, kept) {
		t.Error("a result shares memory with another call's, or with an argument")
	}
	probe.WriteBehind(first)
	if tell(first) != told {
		t.Error("two lists of a result share memory")
	}
}

// R3: a call tells the same again, also after one that failed.
func TestNothingIsKept(t *testing.T) {
	l := toks.All("a(b{c}]) (")
	first, _ := nest.Parse(l, 2)
	nest.Parse(toks.All("((((("), 2)
	nest.Parse(nil, 0)
	again, err := nest.Parse(l, 2)
	if err != api.OK || tell(first) != tell(again) {
		t.Error("a later call differs")
	}
}

func FuzzParse(f *testing.F) {
	f.Add("a(b] {c}", 2)
	f.Add("([)]{f(}", 60)
	f.Fuzz(func(t *testing.T, s string, deep int) {
		l := toks.All(s)
		if deep < 1 || deep > api.MaxDeep {
			if v, err := nest.Parse(l, deep); err != api.ErrArg || len(v) != 0 {
				t.Fatalf("deep %d: error %d", deep, err)
			}
			return
		}
		checkAgainstReference(t, l, deep)
		checkBack(t, l)
	})
}
