package weight_test

import (
	"testing"

	"winnowing/api"
	"winnowing/probe"
	"winnowing/weight"
)

// Short names for what the tables of the tests are made of.
var (
	any1, tag, id, class     = probe.Any(), probe.Tag, probe.ID, probe.Class
	has, is, state, nthChild = probe.Has, probe.Is, probe.InState, probe.Nth
	root, empty, not         = probe.Root(), probe.Empty(), probe.Not
	part, complexOf, pseudo  = probe.Part, probe.Complex, probe.Pseudo
	selsOf, first, tellSels  = probe.Sels, api.CombNone, probe.TellSels
)

type weights = weight.Weight

// compound is a complex selector of one part.
func compound(l ...api.Simple) api.Complex { return complexOf(part(first, l...)) }

// selectors is a table of complex selectors and their weights.
type selectors []struct {
	c    api.Complex
	want weights
}

func (l selectors) check(t *testing.T) {
	t.Helper()
	for _, c := range l {
		if got := weight.Of(c.c); got != c.want {
			t.Errorf("the weight of %s is %v, want %v", tellSels(selsOf(c.c)), got, c.want)
		}
	}
}

// flat is the simple selectors of all parts, with those in a not in its place.
func flat(c api.Complex) []api.Simple {
	var l []api.Simple
	for _, p := range c.Parts {
		l = append(l, p.L...)
	}
	for i := 0; i < len(l); i++ {
		if l[i].Kind == api.SimNot {
			l = append(l, l[i].L...)
		}
	}
	return l
}

// reference is a second reading of what Of counts: each count goes through all the selectors by itself.
func reference(c api.Complex) weights {
	count := func(kinds ...int) int {
		n := 0
		for _, x := range flat(c) {
			for _, kind := range kinds {
				if x.Kind == kind {
					n++
				}
			}
		}
		return n
	}
	w := weights{
		count(api.SimID),
		count(api.SimClass, api.SimHas, api.SimIs, api.SimState, api.SimNth, api.SimRoot, api.SimEmpty),
		count(api.SimTag),
	}
	if len(c.Pseudo) > 0 {
		w[2]++
	}
	return w
}
