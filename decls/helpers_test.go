package decls_test

import (
	"testing"

	"winnowing/api"
	"winnowing/decls"
	"winnowing/nest"
	"winnowing/probe"
	"winnowing/toks"
)

// Short names for what the tables of the tests are made of.
var (
	tok, name, sign, white       = probe.Tok, probe.Name, probe.Sign, probe.White()
	round, square, curly, fn     = probe.Round, probe.Square, probe.Curly, probe.Fn
	list, nested, tell           = probe.List, probe.Nested, probe.Tell
	decl, important, tellDecls   = probe.Decl, probe.Important, probe.TellDecls
	declsOf, colon, bang, semi   = probe.Decls, sign(":"), sign("!"), sign(";")
	marker, markerUp, markerOdd  = name("important"), name("IMPORTANT"), name("imPortAnt")
	a, b                         = name("a"), name("b")
	noKind, inNoBlock, inOneName = api.Val{}, api.Val{Kind: 9, L: list(bang)}, api.Val{Kind: api.ValTok, Tok: a.Tok, L: list(bang)}
)

// Values that are nearly a delimiter or a name, each with one field that is otherwise.
func numbered(v api.Val) api.Val { v.Tok.N = 1; return v }
func filled(v api.Val) api.Val   { v.L = list(semi); return v }
func rounded(v api.Val) api.Val  { v.Kind = api.ValRound; return v }
func unkind(v api.Val) api.Val   { v.Kind = 0; return v }

// ofKind is a token of another kind with the text of v's.
func ofKind(kind int, v api.Val) api.Val { v.Tok.Kind = kind; return v }

// vals is the values of s as nest parses them, with the blanks around them.
func vals(t *testing.T, s string) []api.Val {
	t.Helper()
	l, err := nest.Parse(toks.All(s), api.MaxDeep)
	if err != api.OK {
		t.Fatalf("%q: error %d", s, err)
	}
	return l
}

// parses is a table of texts and the declarations that they are.
type parses []struct {
	s    string
	want []api.Decl
}

func (l parses) check(t *testing.T) {
	t.Helper()
	for _, c := range l {
		if got := decls.Parse(vals(t, c.s)); tellDecls(got) != tellDecls(c.want) {
			t.Errorf("Parse of %q: %s, want %s", c.s, tellDecls(got), tellDecls(c.want))
		}
	}
}

// parsesVals is the same, of values that no text may have.
type parsesVals []struct {
	l    []api.Val
	want []api.Decl
}

func (l parsesVals) check(t *testing.T) {
	t.Helper()
	for _, c := range l {
		if got := decls.Parse(c.l); tellDecls(got) != tellDecls(c.want) {
			t.Errorf("Parse of %s: %s, want %s", tell(c.l), tellDecls(got), tellDecls(c.want))
		}
	}
}
