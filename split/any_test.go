package split_test

import (
	"slices"
	"strings"
	"testing"

	"winnowing/api"
	"winnowing/probe"
	"winnowing/split"
)

// R1 and P1: no call panics, whatever it is given. R5: empty is nil.
func TestAnyArguments(t *testing.T) {
	w := probe.NewWild(1)
	for range 3000 {
		l := w.Vals(4)
		delim := w.Bytes(",;()\x00\xff", 4)
		split.Trim(l)
		split.Words(l)
		split.Text(l)
		split.Join(lists(l, nil, w.Vals(2)), delim)
		split.At(l, delim)
		split.Read(w.Bytes("a1-('[{)]}\"\n/*#@\x00\xff", 100))
	}
	for _, empty := range lists(nil, list()) {
		parts := split.At(empty, ",")
		if len(split.Trim(empty)) != 0 || len(parts) != 1 || len(parts[0]) != 0 || len(split.Words(empty)) != 0 || split.Text(empty) != "" {
			t.Error("no values")
		}
	}
	if l, err := split.Read(""); err != api.OK || len(l) != 0 || len(split.Join(nil, "")) != 0 {
		t.Error("nothing")
	}
}

// R1: the time that long lists and deep values take grows with their size alone.
func TestLongAndDeep(t *testing.T) {
	const n = 200000
	for _, c := range []struct {
		s            string
		parts, words int
	}{
		{"a ", 1, n}, {",", n + 1, 1}, {"a,", n + 1, 1}, {" ,", n + 1, n}, {"(,)", 1, 1}, {"f( )", 1, 1}, {" /**/", 1, 0},
	} {
		l, err := split.Read(strings.Repeat(c.s, n))
		parts, words := split.At(l, ","), split.Words(l)
		if err != api.OK || len(parts) != c.parts || len(words) != c.words || tell(split.Join(parts, ",")) != tell(l) {
			t.Errorf("%q: %d parts, %d words, error %d", c.s, len(parts), len(words), err)
		}
	}
	const levels = 1 << 16
	for kind := api.ValRound; kind <= api.ValFunc; kind++ {
		l := slices.Concat(list(white), probe.Nested(kind, levels), list(sign(","), white))
		if got := split.Trim(l); len(got) != 2 || len(split.At(l, ",")) != 2 || len(split.Words(l)) != 1 || len(split.Text(l)) < levels {
			t.Errorf("kind %d, %d levels", kind, levels)
		}
	}
	if l, err := split.Read(strings.Repeat("[", n)); err != api.ErrDeep || len(l) != 0 {
		t.Errorf("error %d", err)
	}
}

// aList has everything that a call can cut at, and blocks in every part.
func aList(t *testing.T) []api.Val {
	t.Helper()
	return vals(t, " a(b,[c ]) ,{d,e} f, (g) ")
}

// R4: the arguments stay as they were, also behind their ends.
func TestArgumentsStay(t *testing.T) {
	spare := append(aList(t), name("spare"))
	told := tell(spare)
	l := spare[:len(spare)-1]
	split.Trim(l)
	split.At(l, ",")
	split.Words(l)
	split.Text(l)
	split.Join(lists(l[:2], l[2:4], l[:1], nil), ",")
	if tell(spare) != told {
		t.Error("an argument changed")
	}
}

// R4: no list of a result shares memory with another one, or with an argument.
func TestResultsAreNew(t *testing.T) {
	for i, call := range []func([]api.Val) [][]api.Val{
		func(l []api.Val) [][]api.Val { return lists(split.Trim(l)) },
		func(l []api.Val) [][]api.Val { return split.At(l, ",") },
		func(l []api.Val) [][]api.Val { return split.At(l, ";") },
		func(l []api.Val) [][]api.Val { return split.Words(l) },
		func(l []api.Val) [][]api.Val { return lists(split.Join(lists(l), ",")) },
		func(l []api.Val) [][]api.Val { return lists(split.Join(lists(l, l), ",")) },
		func(l []api.Val) [][]api.Val { return split.At(split.Join(lists(l, l), ";"), ";") },
	} {
		l := append(aList(t), api.Val{Kind: 9, L: list(name("in no block"))})
		told := tell(l)
		got := call(l)
		toldParts := tellAll(got)
		for _, part := range got {
			probe.WriteBehind(part)
		}
		if tellAll(got) != toldParts || tell(l) != told {
			t.Errorf("call %d: behind a list stands another one", i)
		}
		for j, part := range got {
			probe.Overwrite(part)
			got[j] = nil
			if rest := tellAll(got[j+1:]); !strings.HasSuffix(toldParts, rest) {
				t.Errorf("call %d: part %d shares memory with another one", i, j)
			}
		}
		if tell(l) != told {
			t.Errorf("call %d: the result shares memory with its argument", i)
		}
		if tellAll(call(l)) != toldParts {
			t.Errorf("call %d differs when it is called again", i)
		}
	}
}

// R4: two parts of Join that are one list are two in the result.
func TestJoinedTwice(t *testing.T) {
	l := list(round(name("a")))
	joined := split.Join(lists(l, l), ",")
	joined[0].L[0] = name("b")
	if split.Text(joined) != "(b),(a)" || split.Text(l) != "(a)" {
		t.Errorf("%q, of %q", split.Text(joined), split.Text(l))
	}
}

// R3: a call tells the same again, also after one that failed.
func TestNothingIsKept(t *testing.T) {
	first, _ := split.Read("a,( b )")
	split.Read(strings.Repeat("(", 61))
	again, err := split.Read("a,( b )")
	if err != api.OK || tell(again) != tell(first) {
		t.Errorf("%s, then %s", tell(first), tell(again))
	}
}
