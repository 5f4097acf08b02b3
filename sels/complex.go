package sels

import "winnowing/api"

// complexSelector reads compound selectors up to a pseudo-element or the end of the values.
func (r *reader) complexSelector() api.Complex {
	var c api.Complex
	comb := api.CombNone
	for {
		part := api.Part{Comb: comb, L: r.compound()}
		c.Parts = append(c.Parts, part)
		demand(len(c.Parts) <= api.MaxParts)
		c.Pseudo = r.pseudoElement()
		demand(len(part.L) > 0 || c.Pseudo != "")
		if c.Pseudo != "" {
			return c
		}
		comb = r.combinator()
		if comb == api.CombNone {
			return c
		}
	}
}

// compound reads simple selectors as far as there are any.
func (r *reader) compound() []api.Simple {
	var l []api.Simple
	for {
		x, ok := r.simple(len(l) == 0)
		if !ok {
			return l
		}
		l = append(l, x)
		demand(len(l) <= api.MaxSimple)
	}
}

// pseudoElement reads a pseudo-element, and returns the empty string if there is none.
func (r *reader) pseudoElement() string {
	if !r.delims(":", ":") {
		return ""
	}
	name := r.name()
	demand(isPseudo(name))
	return name
}

func isPseudo(name string) bool {
	return name == "before" || name == "after"
}

// combinator reads a combinator, with the blanks around it, and returns CombNone at the end of the values.
func (r *reader) combinator() int {
	apart := r.blanks()
	if r.ended() {
		return api.CombNone
	}
	comb := api.CombIn
	switch {
	case r.delims(">"):
		comb = api.CombChild
	case r.delims("+"):
		comb = api.CombNext
	case r.delims("~"):
		comb = api.CombLater
	default:
		demand(apart)
	}
	r.blanks()
	return comb
}
