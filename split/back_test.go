package split_test

import (
	"slices"
	"testing"

	"winnowing/api"
	"winnowing/nest"
	"winnowing/probe"
	"winnowing/split"
)

// referenceAt is a second reading of P3.1: it builds the parts up value by value.
func referenceAt(l []api.Val, delim string) [][]api.Val {
	parts := lists(nil)
	for _, v := range l {
		if v.Kind == api.ValTok && v.Tok == probe.Delim(delim) {
			parts = append(parts, nil)
			continue
		}
		last := len(parts) - 1
		parts[last] = append(parts[last], v)
	}
	return parts
}

// referenceWords makes every blank a delimiter that no value of l is, and leaves away the empty parts.
func referenceWords(l []api.Val) [][]api.Val {
	const mark = "blank"
	marked := slices.Clone(l)
	for i, v := range l {
		if v.Kind == api.ValTok && v.Tok.Kind == api.TokWhite {
			marked[i] = sign(mark)
		}
	}
	return slices.DeleteFunc(referenceAt(marked, mark), func(part []api.Val) bool { return len(part) == 0 })
}

func referenceTrim(l []api.Val) []api.Val {
	full := func(v api.Val) bool { return v.Kind != api.ValTok || v.Tok.Kind != api.TokWhite }
	first := slices.IndexFunc(l, full)
	if first < 0 {
		return nil
	}
	reversed := slices.Clone(l)
	slices.Reverse(reversed)
	return l[first : len(l)-slices.IndexFunc(reversed, full)]
}

func checkList(t *testing.T, l []api.Val, delim string) {
	t.Helper()
	parts := split.At(l, delim)
	if tellAll(parts) != tellAll(referenceAt(l, delim)) {
		t.Fatalf("At of %s, %q:\n%s", tell(l), delim, tellAll(parts))
	}
	if got := split.Words(l); tellAll(got) != tellAll(referenceWords(l)) {
		t.Fatalf("Words of %s:\n%s", tell(l), tellAll(got))
	}
	if got := split.Trim(l); tell(got) != tell(referenceTrim(l)) {
		t.Fatalf("Trim of %s: %s", tell(l), tell(got))
	}
	again := split.At(split.Join(parts, delim), delim)
	if tellAll(again) != tellAll(parts) {
		t.Fatalf("the parts of %s, %q, joined and split:\n%s", tell(l), delim, tellAll(again))
	}
}

// P3.1, P3.2 and P3.4 against the second reading: all short lists of the values that matter, and wild ones.
func TestAgainstReference(t *testing.T) {
	alphabet := list(name("a"), white, sign(","), numComma, roundComma, fullComma, oddWhite, round(sign(","), white))
	probe.Each(alphabet, 5, func(l []api.Val) { checkList(t, l, ",") })
	w := probe.NewWild(8)
	for range 5000 {
		l := slices.Concat(w.Vals(3), list(sign(",")), w.Vals(2), list(white, sign("")), w.Vals(1))
		checkList(t, l, ",")
		checkList(t, l, "")
		checkList(t, l, "(")
	}
}

// P3.4, its first half: of any parts without the delimiter, empty ones too.
func TestJoinedPartsAreSplit(t *testing.T) {
	for _, delim := range []string{",", ";", "", "long", "\n"} {
		pieces := lists(nil, list(white), list(name("a")), list(round(sign(delim)), numComma), list(api.Val{Tok: probe.Delim(delim)}))
		probe.Each(pieces, 4, func(l [][]api.Val) {
			if len(l) == 0 {
				return
			}
			if got := split.At(split.Join(l, delim), delim); tellAll(got) != tellAll(l) {
				t.Fatalf("with %q:\n%swant\n%s", delim, tellAll(got), tellAll(l))
			}
		})
	}
}

// checkRead: values of a text are valid, so that P3.4 must hold for them.
func checkRead(t *testing.T, s string) {
	t.Helper()
	l, err := split.Read(s)
	if err != api.OK {
		return
	}
	if !nest.May(l) || tell(l) != tell(referenceTrim(l)) {
		t.Fatalf("Read(%q) = %s", s, tell(l))
	}
	checkReadBack(t, l)
}

func checkReadBack(t *testing.T, l []api.Val) {
	t.Helper()
	back, err := split.Read(split.Text(l))
	if err != api.OK || tell(back) != tell(referenceTrim(l)) {
		t.Fatalf("%s, of the text %q, is read back %s, error %d", tell(l), split.Text(l), tell(back), err)
	}
}

// P3.4, its second half: the values of texts, and valid values that stand as no text has them.
func TestValuesAreReadBack(t *testing.T) {
	var c probe.Chance = 6
	for range 20000 {
		checkRead(t, c.Bytes("a1-('[{)]}\"\n /*#@,;<!", 30))
	}
	valid := list(name("a"), name("--"), white, sign(","), sign("<"), sign("/"), sign("'"), sign("}"),
		tok(api.Token{Kind: api.TokNum, N: -1}), tok(api.Token{Kind: api.TokNum, N: 1, Text: "e"}),
		round(), fn("f", white, sign("]")), curly(name("b"), square(white)))
	probe.Each(valid, 4, func(l []api.Val) {
		if !nest.May(l) {
			t.Fatalf("%s is not valid", tell(l))
		}
		checkReadBack(t, l)
	})
	for kind := api.ValRound; kind <= api.ValFunc; kind++ {
		checkReadBack(t, probe.Nested(kind, api.MaxDeep))
	}
	w := probe.NewWild(2)
	for range 20000 {
		if l := w.Vals(2); nest.May(l) {
			checkReadBack(t, l)
		}
	}
}

func FuzzRead(f *testing.F) {
	f.Add("a,(b,c) d", ",")
	f.Add(" f( ;a] ", ";")
	f.Fuzz(func(t *testing.T, s, delim string) {
		checkRead(t, s)
		if l, err := split.Read(s); err == api.OK {
			checkList(t, l, delim)
		}
	})
}
