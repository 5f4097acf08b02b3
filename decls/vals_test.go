package decls_test

import (
	"testing"

	"winnowing/api"
	"winnowing/decls"
	"winnowing/split"
)

// P7.2.
func TestVals(t *testing.T) {
	for _, c := range []struct {
		l    []api.Decl
		want []api.Val
	}{
		{nil, nil},
		{declsOf(decl("a", b)), list(a, colon, b)},
		{declsOf(important("a", b)), list(a, colon, b, bang, marker)},
		{declsOf(decl("a", b), important("b", a), decl("a", b)), list(a, colon, b, semi, b, colon, a, bang, marker, semi, a, colon, b)},
		{declsOf(decl("--A", white, curly(semi), white)), list(name("--A"), colon, white, curly(semi), white)},
		{declsOf(decl("", bang), important("X Y")), list(name(""), colon, bang, semi, name("X Y"), colon, bang, marker)},
		{declsOf(api.Decl{}, api.Decl{}), list(name(""), colon, semi, name(""), colon)},
		{declsOf(decl("a", noKind, inNoBlock, inOneName)), list(a, colon, noKind, inNoBlock, inOneName)},
		{declsOf(decl("a", semi, semi)), list(a, colon, semi, semi)},
	} {
		if got := decls.Vals(c.l...); tell(got) != tell(c.want) {
			t.Errorf("Vals of %s: %s, want %s", tellDecls(c.l), tell(got), tell(c.want))
		}
	}
	if got := split.Text(decls.Vals(important("a", b, white, b), decl("--A", fn("f", a)))); got != "a:b\nb!important;--A:f(a)" {
		t.Errorf("Vals has the text %q", got)
	}
}

// P7.3, May.
func TestMay(t *testing.T) {
	for _, c := range []struct {
		d    api.Decl
		want bool
	}{
		{decl("a", b), true},
		{important("a", b), true},
		{decl("-a", b), true},
		{decl("--", b), true},
		{decl("--A", b), true},
		{decl("\x80", b), true},
		{decl("a", name("B")), true},
		{decl("a", round(white, bang, semi, white)), true},
		{decl("a", a, white, white, b), true},
		{decl("a", colon), true},
		{decl("a", sign(")")), true},
		{decl("a", marker), true},

		{api.Decl{}, false},
		{decl("", b), false},
		{decl("A", b), false},
		{decl("-aBc", b), false},
		{decl("-", b), false},
		{decl("1", b), false},
		{decl("a b", b), false},
		{decl("a:", b), false},
		{decl("--a ", b), false},
		{decl("--A(", b), false},

		{decl("a"), false},
		{decl("--a"), false},
		{important("a"), false},
		{decl("a", white), false},
		{decl("a", white, b), false},
		{decl("a", b, white), false},
		{decl("a", bang), false},
		{decl("a", b, bang, marker), false},
		{decl("a", semi), false},
		{decl("a", b, semi, b), false},
		{decl("a", b, semi), false},
		{decl("a", name("")), false},
		{decl("a", round(name("1"))), false},
		{decl("a", numbered(b)), false},
		{decl("a", numbered(bang)), false},
		{decl("a", filled(b)), false},
		{decl("a", rounded(b)), false},
		{decl("a", noKind), false},
		{decl("a", b, inNoBlock), false},
		{decl("a", sign("(")), false},
		{decl("a", fn("1")), false},
	} {
		if decls.May(declsOf(c.d)) != c.want || decls.May(declsOf(decl("a", b), c.d, decl("a", b))) != c.want {
			t.Errorf("May of %s is %t", tellDecls(declsOf(c.d)), !c.want)
		}
	}
	if !decls.May(nil) || !decls.May(declsOf(decl("a", b), decl("a", b))) {
		t.Error("no declarations, or two that are alike")
	}
	for depth := 1; depth < 64; depth++ {
		for kind := api.ValRound; kind <= api.ValFunc; kind++ {
			if decls.May(declsOf(decl("a", nested(kind, depth)...))) != (depth <= 56) {
				t.Errorf("May at depth %d", depth)
			}
		}
	}
}

// P7.3, Same: every field, and order and number.
func TestSame(t *testing.T) {
	x := decl("a", fn("f", b, round(a)), white)
	others := declsOf(
		api.Decl{}, decl("b", x.L...), decl("A", x.L...), important("a", x.L...), decl("a"), decl("a", x.L[:1]...),
		decl("a", fn("g", b, round(a)), white), decl("a", fn("f", b, round(b)), white), decl("a", fn("f", b, square(a)), white),
		decl("a", fn("f", numbered(b), round(a)), white), decl("a", fn("f", b, round(a)), white, white), decl("a", fn("f", b, round(filled(a))), white),
	)
	again := decl("a", fn("f", b, round(a)), white)
	if !decls.Same(declsOf(x), declsOf(again)) || !decls.Same(nil, nil) || !decls.Same(declsOf(x, others[0]), declsOf(again, others[0])) {
		t.Error("equal declarations differ")
	}
	for _, y := range others {
		l := declsOf(y)
		if decls.Same(declsOf(x), l) || decls.Same(l, declsOf(x)) || decls.Same(declsOf(x, x), declsOf(x, y)) || !decls.Same(l, l) {
			t.Errorf("%s is the same as another one", tellDecls(l))
		}
	}
	if decls.Same(declsOf(x), nil) || decls.Same(nil, declsOf(x)) || decls.Same(declsOf(x, x), declsOf(x)) || decls.Same(declsOf(x, others[0]), declsOf(others[0], x)) {
		t.Error("lists of another length or order are the same")
	}
}
