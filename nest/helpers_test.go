package nest_test

import (
	"testing"

	"winnowing/api"
	"winnowing/nest"
	"winnowing/probe"
	"winnowing/toks"
)

// Short names for what the tables of the tests are made of.
var (
	ident, function, delim   = probe.Ident, probe.Function, probe.Delim
	tok, name, sign, white   = probe.Tok, probe.Name, probe.Sign, probe.White()
	round, square, curly, fn = probe.Round, probe.Square, probe.Curly, probe.Fn
	list, nested, tell       = probe.List, probe.Nested, probe.Tell
)

func parsed(t *testing.T, s string) []api.Val {
	t.Helper()
	l, err := nest.Parse(toks.All(s), api.MaxDeep)
	if err != api.OK {
		t.Fatalf("Parse(%q): error %d", s, err)
	}
	return l
}
