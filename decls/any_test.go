package decls_test

import (
	"slices"
	"strings"
	"testing"

	"winnowing/api"
	"winnowing/decls"
	"winnowing/probe"
)

// R1 and P1: no call panics, whatever it is given. R3: a call tells the same again. R4: the arguments stay.
func TestAnyArguments(t *testing.T) {
	w := probe.NewWild(5)
	for range 5000 {
		v, l := w.Vals(3), w.Decls()
		told, toldDecls := tell(v), tellDecls(l)
		tellCalls := func() string {
			var s strings.Builder
			s.WriteString(tellDecls(decls.Parse(v)) + tell(decls.Vals(l...)))
			for _, holds := range []bool{decls.May(l), decls.Same(l, decls.Parse(v)), decls.Same(l, l)} {
				s.WriteString(map[bool]string{true: "yes ", false: "no "}[holds])
			}
			return s.String()
		}
		first := tellCalls()
		if again := tellCalls(); again != first {
			t.Fatalf("%s, then %s", first, again)
		}
		if tell(v) != told || tellDecls(l) != toldDecls {
			t.Fatalf("%s or %s is otherwise afterwards", told, toldDecls)
		}
		decls.Custom(w.Bytes("-a\xff", 5))
	}
}

const aText = " a:b(c,[d]) ;E: {f;g} h ! important; x; --A:(b)"

// R4: the arguments stay as they were, also behind their ends.
func TestBehindArguments(t *testing.T) {
	v := append(vals(t, aText), white, a)
	l := declsOf(decl("a", v[1:2]...), important("b", v[:4]...), decl("spare"))
	told, toldDecls := tell(v), tellDecls(l)
	decls.Parse(v[:len(v)-2])
	decls.Vals(l[:2]...)
	decls.May(l[:2])
	decls.Same(l[:1], l[1:2])
	if tell(v) != told || tellDecls(l) != toldDecls {
		t.Error("an argument changed")
	}
}

// R4: no list of a result shares memory with another one, or with an argument. R3: no call keeps what it told.
func TestResultsAreNew(t *testing.T) {
	v := vals(t, aText)
	told := tell(v)
	l := decls.Parse(v)
	if len(l) != 3 {
		t.Fatalf("%d declarations", len(l))
	}
	toldDecls := tellDecls(l)
	probe.WriteBehindDecls(l)
	if tellDecls(l) != toldDecls || tell(v) != told {
		t.Error("behind a list of Parse stands another one")
	}
	joined := decls.Vals(l[0], l[0], l[1], l[2])
	toldVals := tell(joined)
	probe.WriteBehind(joined)
	probe.OverwriteDecls(l)
	if tell(v) != told || tell(joined) != toldVals || tellDecls(decls.Parse(v)) != toldDecls {
		t.Error("a result of Parse shares memory")
	}
	l = decls.Parse(v)
	probe.Overwrite(l[0].L)
	if rest := tellDecls(l[1:]); !strings.HasSuffix(toldDecls, rest) {
		t.Error("two declarations of Parse share memory")
	}
	l = decls.Parse(v)
	joined = decls.Vals(l[0], l[0])
	half := len(joined) / 2
	toldVals = tell(joined[half+1:])
	probe.Overwrite(joined[:half])
	if tell(joined[half+1:]) != toldVals || tellDecls(l) != toldDecls {
		t.Error("a result of Vals shares memory")
	}
}

// R5: empty and nil lists are alike.
func TestEmptyIsNil(t *testing.T) {
	for _, v := range [][]api.Val{nil, {}} {
		if len(decls.Parse(v)) != 0 || decls.May(declsOf(decl("a", v...))) || tell(decls.Vals(decl("a", v...))) != tell(list(a, colon)) {
			t.Error("no values")
		}
	}
	none, empty := decl("a", curly()), decl("a", api.Val{Kind: api.ValCurly, L: list()})
	if !decls.May(declsOf(none, empty)) || !decls.Same(declsOf(none), declsOf(empty)) || !decls.Same(declsOf(api.Decl{}), declsOf(api.Decl{L: list()})) {
		t.Error("no values in a declaration")
	}
	for _, l := range [][]api.Decl{nil, {}} {
		if len(decls.Vals(l...)) != 0 || !decls.May(l) || !decls.Same(l, nil) || !decls.Same(nil, l) {
			t.Error("no declarations")
		}
	}
}

// R1: the time that long lists and deep values take grows with their size alone.
func TestLongAndDeep(t *testing.T) {
	const n = 50000
	for s, want := range map[string]int{
		"a:b;": n, "a:b!important;": n, ";": 0, "a ": 0, "a:": 1, "a:b!": 0, "! important": 0, "x:() ": 1, "a: ;": 0,
	} {
		l := decls.Parse(vals(t, strings.Repeat(s, n)))
		back := decls.Parse(decls.Vals(l...))
		if len(l) != want || !decls.May(l) || !decls.Same(back, l) {
			t.Errorf("%q: %d declarations, and %d", s, len(l), len(back))
		}
	}
	blanks := slices.Repeat(list(white), n)
	spread := slices.Concat(list(a), blanks, list(colon), blanks, list(b), blanks, list(bang), blanks, list(marker), blanks)
	if got := decls.Parse(spread); tellDecls(got) != tellDecls(declsOf(important("a", b))) {
		t.Errorf("%d declarations", len(got))
	}
	long := strings.Repeat("A", n)
	if got := decls.Parse(list(name(long), colon, name(long))); tellDecls(got) != tellDecls(declsOf(decl(strings.ToLower(long), name(long)))) || !decls.May(got) {
		t.Error("a long name")
	}
	const levels = 1 << 16
	for kind := api.ValRound; kind <= api.ValFunc; kind++ {
		deep := nested(kind, levels)
		l := declsOf(decl("a", deep...))
		got := decls.Parse(slices.Concat(list(a, colon), deep, list(semi, a, colon, b)))
		if len(got) != 1 || decls.May(l) || !decls.Same(l, l) || decls.Same(l, declsOf(decl("a", nested(kind, levels+1)...))) || len(decls.Vals(l...)) != 3 {
			t.Errorf("kind %d, %d levels", kind, levels)
		}
	}
}
