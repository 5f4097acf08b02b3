package spell

import (
	"strconv"
	"strings"

	"winnowing/api"
	"winnowing/toks"
)

// writer writes all words into one builder, so that the time does not grow with the depth of selectors.
type writer struct {
	strings.Builder
}

// formula is the two numbers of an nth-child.
type formula struct {
	a, b int
}

// words writes texts as they are, and everything else as its type asks.
func (w *writer) words(l ...any) {
	for _, word := range l {
		switch x := word.(type) {
		case string:
			w.WriteString(x)
		case int:
			w.WriteString(strconv.Itoa(x))
		case api.Token:
			w.WriteString(toks.One(x))
		case formula:
			w.nth(x)
		case api.Simple:
			w.simple(x)
		case []api.Simple:
			w.compound(x)
		case api.Complex:
			w.complexSelector(x)
		case []api.Complex:
			w.list(x)
		}
	}
}

// nth writes no sign ahead of a negative number, which has its own.
func (w *writer) nth(f formula) {
	switch {
	case f.a == 0:
		w.words(f.b)
	case f.b > 0:
		w.words(f.a, "n+", f.b)
	case f.b < 0:
		w.words(f.a, "n", f.b)
	default:
		w.words(f.a, "n")
	}
}

func (w *writer) simple(x api.Simple) {
	switch x.Kind {
	case api.SimAny:
		w.words("*")
	case api.SimTag:
		w.words(x.Name)
	case api.SimID:
		w.words("#", x.Name)
	case api.SimClass:
		w.words(".", x.Name)
	case api.SimHas:
		w.words("[", x.Name, "]")
	case api.SimIs:
		w.words("[", x.Name, "=", quoted(x.Value), "]")
	case api.SimState:
		w.words(":", x.Name)
	case api.SimNth:
		w.words(":nth-child(", formula{x.A, x.B}, ")")
	case api.SimRoot:
		w.words(":root")
	case api.SimEmpty:
		w.words(":empty")
	case api.SimNot:
		w.words(":not(", x.L, ")")
	}
}

// quoted puts the quotes around a value that do not stand in it, as far as there are such.
func quoted(value string) api.Token {
	t := api.Token{Kind: api.TokStr, Text: value, N: '"'}
	if strings.Contains(value, `"`) {
		t.N = '\''
	}
	return t
}

func (w *writer) compound(l []api.Simple) {
	for _, x := range l {
		w.simple(x)
	}
}

func (w *writer) complexSelector(c api.Complex) {
	for _, p := range c.Parts {
		w.words(combText(p.Comb), p.L)
	}
	if c.Pseudo != "" {
		w.words("::", c.Pseudo)
	}
}

func combText(comb int) string {
	switch comb {
	case api.CombIn:
		return " "
	case api.CombChild:
		return ">"
	case api.CombNext:
		return "+"
	case api.CombLater:
		return "~"
	}
	return ""
}

func (w *writer) list(l []api.Complex) {
	for i, c := range l {
		if i > 0 {
			w.words(",")
		}
		w.complexSelector(c)
	}
}
