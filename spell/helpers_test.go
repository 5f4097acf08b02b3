package spell_test

import (
	"testing"

	"winnowing/api"
	"winnowing/probe"
	"winnowing/spell"
)

// Short names for what the tables of the tests are made of.
var (
	any1, tag, id, class     = probe.Any(), probe.Tag, probe.ID, probe.Class
	has, is, state, nthChild = probe.Has, probe.Is, probe.InState, probe.Nth
	root, empty, not         = probe.Root(), probe.Empty(), probe.Not
	part, complexOf, selsOf  = probe.Part, probe.Complex, probe.Sels
	pseudo, one, first       = probe.Pseudo, probe.One, api.CombNone
	tellSels                 = probe.TellSels
)

// simples is a table of simple selectors and their texts.
type simples []struct {
	x    api.Simple
	want string
}

// check also has each of them inside a not, and as the one selector of a list.
func (l simples) check(t *testing.T) {
	t.Helper()
	for _, c := range l {
		if got := spell.Simple(c.x); got != c.want {
			t.Errorf("Simple of %s is %q, want %q", tellSels(one(c.x)), got, c.want)
		}
		if got, want := spell.Simple(not(c.x)), ":not("+c.want+")"; got != want {
			t.Errorf("Simple of %s is %q, want %q", tellSels(one(not(c.x))), got, want)
		}
		if got := spell.List(one(c.x)); got != c.want {
			t.Errorf("List of %s is %q, want %q", tellSels(one(c.x)), got, c.want)
		}
	}
}
