package probe

import (
	"strconv"
	"strings"

	"winnowing/api"
)

func Decl(name string, l ...api.Val) api.Decl { return api.Decl{Name: name, L: l} }

// Important is a declaration that is marked as such.
func Important(name string, l ...api.Val) api.Decl {
	return api.Decl{Name: name, L: l, Important: true}
}

func Decls(l ...api.Decl) []api.Decl { return l }

// TellDecls writes every field of declarations, so that two lists are equal just if they are told alike.
// It is written apart from decls.Same, which it tests. Empty and nil lists are told alike.
func TellDecls(l []api.Decl) string {
	var b strings.Builder
	for _, d := range l {
		b.WriteString(strconv.Quote(d.Name) + " " + strconv.FormatBool(d.Important) + " {")
		tellInto(&b, d.L)
		b.WriteString("},")
	}
	return b.String()
}

// OverwriteDecls clears every declaration, so that whoever shares memory with l is told differently.
func OverwriteDecls(l []api.Decl) {
	for i := range l {
		Overwrite(l[i].L)
		l[i] = api.Decl{}
	}
}

// WriteBehindDecls writes behind the end of each list, where another one must not lie.
func WriteBehindDecls(l []api.Decl) {
	_ = append(l, Decl("x"), Decl("y"))
	for _, d := range l {
		WriteBehind(d.L)
	}
}

// Decls: declarations of any names, and with any values, of which some are valid.
func (w *Wild) Decls() []api.Decl {
	l := make([]api.Decl, pick(w, 0, 1, 1, 2, 3))
	for i := range l {
		l[i].Name = pick(w, "a", "a", "b", "-b", "--a", "--A", "A", "", "1", "-", "a b", "\x80\xff", "\n")
		l[i].Important = w.Below(3) == 0
		l[i].L = pick(w, List(Name("a")), List(Fn("f", Sign("!"), Sign(";")), White(), Curly()), w.Vals(2), w.Vals(2))
	}
	return l
}
