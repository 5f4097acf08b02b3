package decls_test

import (
	"strings"
	"testing"

	"winnowing/api"
	"winnowing/decls"
)

// P7.1, Custom.
func TestCustom(t *testing.T) {
	for name, want := range map[string]bool{
		"--": true, "--a": true, "--A": true, "---": true, "-- ": true, "--\xff": true,
		"": false, "-": false, "-a": false, "-a--": false, "a--b": false, " --a": false, "a": false, "\xad--": false,
	} {
		if decls.Custom(name) != want {
			t.Errorf("Custom(%q) is %t", name, !want)
		}
	}
}

// P7.1, Parse: the parts between semicolons, in order, trimmed, without those that are no declarations.
func TestParse(t *testing.T) {
	ab, cd := decl("a", b), decl("c", name("d"))
	parses{
		{"", nil},
		{" ", nil},
		{";", nil},
		{" ; ;; ", nil},
		{"a:b", declsOf(ab)},
		{"color : RED ! important; x", declsOf(important("color", name("RED")))},
		{";a:b;", declsOf(ab)},
		{" a:b ; c:d ", declsOf(ab, cd)},
		{"c:d;a:b;c:d", declsOf(cd, ab, cd)},
		{"a:b;x;c:d", declsOf(ab, cd)},
		{"x;a:b;;1:2;c:d;y:", declsOf(ab, cd)},
		{"a:b c:d", declsOf(decl("a", b, white, name("c"), colon, name("d")))},
		{"a:{b;c:d};c:d", declsOf(decl("a", curly(b, semi, name("c"), colon, name("d"))), cd)},
		{"(a:b;)c:d;[;];f(;);a:b", declsOf(ab)},
		{"a:(b;c:d", declsOf(decl("a", round(b, semi, name("c"), colon, name("d"))))},
		{"a:';'", declsOf(decl("a", tok(api.Token{Kind: api.TokStr, Text: ";", N: '\''})))},
		{"a:b/*;*/;c:d", declsOf(ab, cd)},
		{"a:b}c;c:d", declsOf(decl("a", b, sign("}"), name("c")), cd)},
	}.check(t)
}

// The words of the chapter, the name and the colon.
func TestNameAndColon(t *testing.T) {
	ab := declsOf(decl("a", b))
	parses{
		{"a :b", ab},
		{"a/**/:b", ab},
		{" a /**/ : /**/ b /**/ ", ab},
		{"a\n:\tb", ab},
		{"a", nil},
		{"a b", nil},
		{"a b:c", nil},
		{"a.b:c", nil},
		{":b", nil},
		{": b", nil},
		{"::b", nil},
		{"1:b", nil},
		{"1a:b", nil},
		{"'a':b", nil},
		{"#a:b", nil},
		{"@a:b", nil},
		{".a:b", nil},
		{"*a:b", nil},
		{"a():b", nil},
		{"(a):b", nil},
		{"[a]:b", nil},
		{"{a}:b", nil},
		{"a(:)b", nil},
		{"a=b", nil},
		{"a::b", declsOf(decl("a", colon, b))},
		{"a:b:c", declsOf(decl("a", b, colon, name("c")))},
		{"-a:b", declsOf(decl("-a", b))},
		{"--:b", declsOf(decl("--", b))},
		{"important:b", declsOf(decl("important", b))},
		{"!important:b", nil},
	}.check(t)
	parsesVals{
		{list(a, colon, b), ab},
		{list(white, white, a, white, white, colon, white, white, b, white, white), ab},
		{list(numbered(a), colon, b), ab},
		{list(filled(a), colon, b), ab},
		{list(rounded(a), colon, b), nil},
		{list(unkind(a), colon, b), nil},
		{list(ofKind(api.TokFunc, a), colon, b), nil},
		{list(ofKind(api.TokDelim, a), colon, b), nil},
		{list(name(""), colon, b), declsOf(decl("", b))},
		{list(a, filled(colon), b), ab},
		{list(a, numbered(colon), b), nil},
		{list(a, rounded(colon), b), nil},
		{list(a, unkind(colon), b), nil},
		{list(a, name(":"), b), nil},
		{list(a, sign("::"), b), nil},
		{list(a, sign(""), b), nil},
		{list(a, noKind, colon, b), nil},
		{list(noKind, a, colon, b), nil},
		{list(name("x"), numbered(semi), a, colon, b), nil},
		{list(name("x"), rounded(semi), a, colon, b), nil},
		{list(name("x"), filled(semi), a, colon, b), ab},
	}.check(t)
}

// P7.1: names are in lower case, unless they are custom. Values stay as they are.
func TestLowerCase(t *testing.T) {
	parses{
		{"COLOR:Red", declsOf(decl("color", name("Red")))},
		{"aZ-Q_9z:B", declsOf(decl("az-q_9z", name("B")))},
		{"-A:b", declsOf(decl("-a", b))},
		{"--A:b", declsOf(decl("--A", b))},
		{"--aB-C:B", declsOf(decl("--aB-C", name("B")))},
		{"\xc3\x84\xffA:b", declsOf(decl("\xc3\x84\xffa", b))},
		{"\u212aA:b", declsOf(decl("\u212aa", b))},
	}.check(t)
}

// The words of the chapter, the value: not empty, and without a delimiter `!` outside blocks.
func TestValue(t *testing.T) {
	parses{
		{"a:", nil},
		{"a: ", nil},
		{"a: /**/ ", nil},
		{"--a:", nil},
		{"--a: ", nil},
		{"a:b c", declsOf(decl("a", b, white, name("c")))},
		{"a: b  c ", declsOf(decl("a", b, white, name("c")))},
		{"a:( b )", declsOf(decl("a", round(white, b, white)))},
		{"a:{}", declsOf(decl("a", curly()))},
		{"a:!", nil},
		{"a:b!", nil},
		{"a:!b", nil},
		{"a:b!c", nil},
		{"a:b ! c", nil},
		{"a:b!!important", nil},
		{"a:!important b", nil},
		{"a:b!important c", nil},
		{"a:b!important!important", nil},
		{"a:b !important,", nil},
		{"a:(!)", declsOf(decl("a", round(bang)))},
		{"a:f(!important)[!]{!}", declsOf(decl("a", fn("f", bang, marker), square(bang), curly(bang)))},
		{"a:'!'", declsOf(decl("a", tok(api.Token{Kind: api.TokStr, Text: "!", N: '\''})))},
	}.check(t)
	parsesVals{
		{list(a, colon, numbered(bang)), declsOf(decl("a", numbered(bang)))},
		{list(a, colon, numbered(semi)), declsOf(decl("a", numbered(semi)))},
		{list(a, colon, name("!")), declsOf(decl("a", name("!")))},
		{list(a, colon, filled(bang)), nil},
		{list(a, colon, noKind, white), declsOf(decl("a", noKind))},
		{list(a, colon, inNoBlock), declsOf(decl("a", inNoBlock))},
		{list(a, colon, inOneName), declsOf(decl("a", inOneName))},
		{list(a, colon, ofKind(api.TokWhite, b)), nil},
		{list(a, colon, rounded(white)), declsOf(decl("a", rounded(white)))},
	}.check(t)
}

// The words of the chapter: what makes a declaration Important, and does not belong to its value.
func TestImportant(t *testing.T) {
	ab := declsOf(important("a", b))
	parses{
		{"a:b!important", ab},
		{"a:b ! important", ab},
		{"a: b /**/ /**/ ! /**/ /**/ important ", ab},
		{"a:b!IMPORTANT", ab},
		{"a:b!imPortAnt", ab},
		{"--A:1 2!Important", declsOf(important("--A", tok(api.Token{Kind: api.TokNum, N: 1}), white, tok(api.Token{Kind: api.TokNum, N: 2})))},
		{"a:( b )!important", declsOf(important("a", round(white, b, white)))},
		{"a:important!important", declsOf(important("a", marker))},
		{"a:!important", nil},
		{"a: ! important", nil},
		{"--a:!important", nil},
		{"a:important", declsOf(decl("a", marker))},
		{"a:b important", declsOf(decl("a", b, white, marker))},
		{"a:b!importan", nil},
		{"a:b!importants", nil},
		{"a:b!important()", nil},
		{"a:b!(important)", nil},
		{"a:b(!important)", declsOf(decl("a", fn("b", bang, marker)))},
		{"a:b!'important'", nil},
		{"a:b!#important", nil},
		{"a:b!\u0131mportant", nil},
	}.check(t)
	parsesVals{
		{list(a, colon, b, filled(bang), filled(markerUp)), ab},
		{list(a, colon, b, white, white, bang, white, white, numbered(markerOdd)), ab},
		{list(a, colon, b, numbered(bang), marker), declsOf(decl("a", b, numbered(bang), marker))},
		{list(a, colon, b, rounded(bang), marker), declsOf(decl("a", b, rounded(bang), marker))},
		{list(a, colon, b, bang, rounded(marker)), nil},
		{list(a, colon, b, bang, ofKind(api.TokStr, marker)), nil},
		{list(a, colon, b, bang, marker, noKind), nil},
		{list(a, colon, b, bang, noKind, marker), nil},
		{list(a, colon, numbered(bang), bang, marker), declsOf(important("a", numbered(bang)))},
		{list(a, colon, marker, marker), declsOf(decl("a", marker, marker))},
	}.check(t)
}

// The words of the chapter, the bound of the value: 56 blocks one inside the other.
func TestDeepValue(t *testing.T) {
	for depth := range 61 {
		for kind := api.ValRound; kind <= api.ValFunc; kind++ {
			l := nested(kind, depth)
			wanted := depth > 0 && depth <= 56
			for _, got := range [][]api.Decl{
				decls.Parse(append(list(a, colon), l...)),
				decls.Parse(append(append(list(a, colon), l...), bang, marker)),
			} {
				if (len(got) == 1) != wanted || wanted && tell(got[0].L) != tell(l) {
					t.Errorf("kind %d, depth %d: %s", kind, depth, tellDecls(got))
				}
			}
		}
	}
}

// The same, of texts: the parts around a value that is too deep are declarations all the same.
func TestDeepText(t *testing.T) {
	for depth := range 61 {
		blocks := strings.Repeat("{", depth) + "x" + strings.Repeat("}", depth)
		want := 3
		if depth > 56 {
			want = 2
		}
		if got := decls.Parse(vals(t, "a:b;c:d "+blocks+";e:f")); len(got) != want || got[0].Name != "a" || got[want-1].Name != "e" {
			t.Errorf("depth %d: %s", depth, tellDecls(got))
		}
	}
}
