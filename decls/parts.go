package decls

import (
	"slices"

	"winnowing/api"
	"winnowing/ascii"
	"winnowing/nest"
	"winnowing/split"
)

// declaration returns the one that l is, whose blanks around it are gone, if it is one.
func declaration(l []api.Val) (api.Decl, bool) {
	if len(l) == 0 || !isName(l[0]) {
		return api.Decl{}, false
	}
	rest := split.Trim(l[1:])
	if len(rest) == 0 || !isDelim(rest[0], ":") {
		return api.Decl{}, false
	}
	value, important := cutImportant(split.Trim(rest[1:]))
	if !isValue(value) {
		return api.Decl{}, false
	}
	return api.Decl{Name: properName(l[0].Tok.Text), L: value, Important: important}, true
}

// cutImportant returns a trimmed value without the mark of important ones, and reports whether it had one.
func cutImportant(value []api.Val) ([]api.Val, bool) {
	last := len(value) - 1
	if last < 0 || !isName(value[last]) || ascii.Lower(value[last].Tok.Text) != "important" {
		return value, false
	}
	before := split.Trim(value[:last])
	last = len(before) - 1
	if last < 0 || !isDelim(before[last], "!") {
		return value, false
	}
	return split.Trim(before[:last]), true
}

// valsOf returns the values of one declaration. They share memory with it: who hands them out copies them first.
func valsOf(d api.Decl) []api.Val {
	l := append([]api.Val{name(d.Name), delim(":")}, d.L...)
	if d.Important {
		l = append(l, delim("!"), name("important"))
	}
	return l
}

// isValue reports whether a declaration may have the value l. Whether its tokens are valid is another question.
func isValue(l []api.Val) bool {
	trimmed := len(split.Trim(l)) == len(l)
	return len(l) > 0 && trimmed && !slices.ContainsFunc(l, oneOf("!", ";")) && nest.Depth(l) <= api.MaxValue
}

// properName returns the name that a declaration of that name has: only custom ones tell upper case from lower case.
func properName(name string) string {
	if Custom(name) {
		return name
	}
	return ascii.Lower(name)
}

func isName(v api.Val) bool {
	return v.Kind == api.ValTok && v.Tok.Kind == api.TokIdent
}

func isDelim(v api.Val, sign string) bool {
	return oneOf(sign)(v)
}

// oneOf returns the predicate of being one of the delimiters.
func oneOf(signs ...string) func(api.Val) bool {
	return func(v api.Val) bool {
		return v.Kind == api.ValTok && v.Tok.Kind == api.TokDelim && v.Tok.N == 0 && slices.Contains(signs, v.Tok.Text)
	}
}

func name(text string) api.Val {
	return api.Val{Kind: api.ValTok, Tok: api.Token{Kind: api.TokIdent, Text: text}}
}

func delim(sign string) api.Val {
	return api.Val{Kind: api.ValTok, Tok: api.Token{Kind: api.TokDelim, Text: sign}}
}
