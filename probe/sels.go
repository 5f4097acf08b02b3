package probe

import (
	"math"
	"strconv"
	"strings"

	"winnowing/api"
)

func Any() api.Simple                  { return api.Simple{Kind: api.SimAny} }
func Tag(name string) api.Simple       { return api.Simple{Kind: api.SimTag, Name: name} }
func ID(name string) api.Simple        { return api.Simple{Kind: api.SimID, Name: name} }
func Class(name string) api.Simple     { return api.Simple{Kind: api.SimClass, Name: name} }
func Has(name string) api.Simple       { return api.Simple{Kind: api.SimHas, Name: name} }
func Is(name, value string) api.Simple { return api.Simple{Kind: api.SimIs, Name: name, Value: value} }
func InState(name string) api.Simple   { return api.Simple{Kind: api.SimState, Name: name} }
func Nth(a, b int) api.Simple          { return api.Simple{Kind: api.SimNth, A: a, B: b} }
func Root() api.Simple                 { return api.Simple{Kind: api.SimRoot} }
func Empty() api.Simple                { return api.Simple{Kind: api.SimEmpty} }
func Not(l ...api.Simple) api.Simple   { return api.Simple{Kind: api.SimNot, L: l} }

func Part(comb int, l ...api.Simple) api.Part { return api.Part{Comb: comb, L: l} }
func Complex(l ...api.Part) api.Complex       { return api.Complex{Parts: l} }
func Sels(l ...api.Complex) []api.Complex     { return l }

// Pseudo is a complex selector that ends with a pseudo-element.
func Pseudo(name string, l ...api.Part) api.Complex {
	return api.Complex{Parts: l, Pseudo: name}
}

// One is a list of one compound selector.
func One(l ...api.Simple) []api.Complex { return Sels(Complex(Part(api.CombNone, l...))) }

// NestedNot is simple selectors with one in each but the innermost.
func NestedNot(depth int) api.Simple {
	x := Tag("a")
	for range depth {
		x = Not(x)
	}
	return x
}

// TellSels writes every field of selectors, so that two lists are equal just if they are told alike.
// It is written apart from sels.Same, which it tests. Empty and nil lists are told alike.
func TellSels(l []api.Complex) string {
	var b strings.Builder
	for _, c := range l {
		b.WriteString(strconv.Quote(c.Pseudo) + " {")
		for _, p := range c.Parts {
			b.WriteString(strconv.Itoa(p.Comb) + " [")
			tellSimples(&b, p.L)
			b.WriteString("],")
		}
		b.WriteString("},")
	}
	return b.String()
}

func tellSimples(b *strings.Builder, l []api.Simple) {
	for _, x := range l {
		b.WriteString(strconv.Itoa(x.Kind) + " " + strconv.Quote(x.Name) + " " + strconv.Quote(x.Value) + " ")
		b.WriteString(strconv.Itoa(x.A) + " " + strconv.Itoa(x.B) + " [")
		tellSimples(b, x.L)
		b.WriteString("],")
	}
}

// OverwriteSels clears every selector, so that whoever shares memory with l is told differently.
func OverwriteSels(l []api.Complex) {
	for i := range l {
		for j := range l[i].Parts {
			overwriteSimples(l[i].Parts[j].L)
			l[i].Parts[j] = api.Part{}
		}
		l[i] = api.Complex{}
	}
}

func overwriteSimples(l []api.Simple) {
	for i := range l {
		overwriteSimples(l[i].L)
		l[i] = api.Simple{}
	}
}

// WriteBehindSels writes behind the end of each list, where another one must not lie.
func WriteBehindSels(l []api.Complex) {
	_ = append(l, Pseudo("x"), Pseudo("y"))
	for _, c := range l {
		_ = append(c.Parts, Part(9), Part(9))
		for _, p := range c.Parts {
			writeBehindSimples(p.L)
		}
	}
}

func writeBehindSimples(l []api.Simple) {
	_ = append(l, Tag("x"), Tag("y"))
	for _, x := range l {
		writeBehindSimples(x.L)
	}
}

// Sels: selectors of every kind and none, with any fields, and with any selectors in them.
func (w *Wild) Sels() []api.Complex {
	l := make([]api.Complex, pick(w, 0, 1, 1, 1, 2, 3))
	for i := range l {
		l[i].Parts = make([]api.Part, pick(w, 0, 1, 1, 1, 2, 3))
		l[i].Pseudo = pick(w, "", "", "", "", "before", "before", "after", "after", "a", "\xff")
		for j := range l[i].Parts {
			comb := min(j, 1) * (1 + w.Below(4))
			l[i].Parts[j] = api.Part{Comb: comb, L: w.Simples(2)}
			if w.Below(9) == 0 {
				l[i].Parts[j].Comb = pick(w, math.MinInt, -1, 0, 1, 2, 5, math.MaxInt)
			}
		}
	}
	return l
}

// Simples are such simple selectors, to a depth. Most of them have those fields alone that belong to their kind.
func (w *Wild) Simples(depth int) []api.Simple {
	l := make([]api.Simple, pick(w, 0, 1, 1, 1, 2, 3))
	for i := range l {
		l[i] = w.simple(depth)
	}
	return l
}

func (w *Wild) simple(depth int) api.Simple {
	name := pick(w, "a", "a", "a", "b", "b", "c", "c", "b-1", "A", "", "1", "-", "hover", "odd", "a b", "\x80\xff", "a'", "\n")
	value := pick(w, "a", "a b", "", "'", "\"", "'\"", "\n", "\x00\xff", "]")
	a := pick(w, 0, 1, -2, api.MaxNth, -api.MaxNth, api.MaxNth+1, -api.MaxNth-1, math.MinInt, math.MaxInt)
	b := pick(w, 0, 1, -2, api.MaxNth, -api.MaxNth, api.MaxNth+1, -api.MaxNth-1, math.MinInt, math.MaxInt)
	var in []api.Simple
	if depth > 0 {
		in = w.Simples(depth - 1)
	}
	kind := pick(w, math.MinInt, -1, 0, 12, math.MaxInt)
	if w.Below(20) == 0 {
		return api.Simple{Kind: kind, Name: name, Value: value, A: a, B: b, L: in}
	}
	tame := []api.Simple{
		Any(), Tag(name), ID(name), Class(name), Has(name), Is(name, value), InState(name), InState("focus"), Nth(a, b), Root(), Empty(),
		Not(in...), Not(Class(name)),
	}
	x := pick(w, tame...)
	switch w.Below(60) {
	case 0:
		x.Name = name
	case 1:
		x.Value = value
	case 2:
		x.A = a
	case 3:
		x.B = b
	case 4:
		x.L = in
	case 5:
		x.Kind = kind
	}
	return x
}

func pick[T any](w *Wild, of ...T) T {
	return of[w.Below(len(of))]
}
