package sels_test

import (
	"testing"

	"winnowing/api"
	"winnowing/probe"
	"winnowing/sels"
)

// Short names for what the tables of the tests are made of.
var (
	tok, name, sign, white   = probe.Tok, probe.Name, probe.Sign, probe.White()
	round, square, curly, fn = probe.Round, probe.Square, probe.Curly, probe.Fn
	list, tell, tellSels     = probe.List, probe.Tell, probe.TellSels

	any1, tag, id, class     = probe.Any(), probe.Tag, probe.ID, probe.Class
	has, is, state, nthChild = probe.Has, probe.Is, probe.InState, probe.Nth
	root, empty, not         = probe.Root(), probe.Empty(), probe.Not
	part, complexOf, selsOf  = probe.Part, probe.Complex, probe.Sels
	pseudo, one, first       = probe.Pseudo, probe.One, api.CombNone
)

func num(n int, unit string) api.Val {
	return tok(api.Token{Kind: api.TokNum, N: n, Text: unit})
}

func hash(s string) api.Val {
	return tok(api.Token{Kind: api.TokHash, Text: s})
}

// reads is a table of texts and the selectors that they are.
type reads []struct {
	s    string
	want []api.Complex
}

func (l reads) check(t *testing.T) {
	t.Helper()
	for _, c := range l {
		got, err := sels.Read(c.s)
		if err != api.OK || tellSels(got) != tellSels(c.want) {
			t.Errorf("Read(%q) = %s, error %d, want %s", c.s, tellSels(got), err, tellSels(c.want))
		}
	}
}

// refused checks texts that are no selector lists.
func refused(t *testing.T, l ...string) {
	t.Helper()
	for _, s := range l {
		if got, err := sels.Read(s); err != api.ErrSel || len(got) != 0 {
			t.Errorf("Read(%q) = %s, error %d", s, tellSels(got), err)
		}
	}
}
