package decls_test

import (
	"strings"
	"testing"

	"winnowing/api"
	"winnowing/decls"
	"winnowing/nest"
	"winnowing/probe"
	"winnowing/split"
)

// A second reading of the promises: each value is written as one letter, and what is asked is asked of that text.
func letters(l []api.Val) string {
	var s strings.Builder
	for _, v := range l {
		s.WriteByte(letter(v))
	}
	return s.String()
}

func letter(v api.Val) byte {
	switch {
	case v.Kind != api.ValTok:
		return 'o'
	case v.Tok.Kind == api.TokWhite:
		return ' '
	case v.Tok.Kind == api.TokIdent && len(v.Tok.Text) == 9 && strings.EqualFold(v.Tok.Text, "important"):
		return 'I'
	case v.Tok.Kind == api.TokIdent:
		return 'n'
	case v.Tok.Kind == api.TokDelim && v.Tok.N == 0 && len(v.Tok.Text) == 1 && strings.Contains(":!;", v.Tok.Text):
		return v.Tok.Text[0]
	}
	return 'o'
}

func referenceParse(l []api.Val) []api.Decl {
	var list []api.Decl
	start := 0
	for part := range strings.SplitSeq(letters(l), ";") {
		if d, ok := referenceDecl(l[start:start+len(part)], part); ok {
			list = append(list, d)
		}
		start += len(part) + 1
	}
	return list
}

func referenceDecl(l []api.Val, s string) (d api.Decl, ok bool) {
	before, value, found := strings.Cut(s, ":")
	if head := strings.Trim(before, " "); !found || head != "n" && head != "I" {
		return d, false
	}
	d.Name = l[strings.IndexAny(s, "nI")].Tok.Text
	if !strings.HasPrefix(d.Name, "--") {
		d.Name = asciiLower(d.Name)
	}
	end := strings.TrimRight(value, " ")
	if rest := strings.TrimSuffix(end, "I"); rest != end && strings.HasSuffix(strings.TrimRight(rest, " "), "!") {
		d.Important = true
		end = strings.TrimRight(strings.TrimSuffix(strings.TrimRight(rest, " "), "!"), " ")
	}
	value = strings.TrimLeft(end, " ")
	from := len(before) + 1 + len(end) - len(value)
	d.L = l[from : from+len(value)]
	return d, value != "" && !strings.Contains(value, "!") && nest.Depth(d.L) <= 56
}

func asciiLower(s string) string {
	b := []byte(s)
	for i := range b {
		if strings.IndexByte("ABCDEFGHIJKLMNOPQRSTUVWXYZ", b[i]) >= 0 {
			b[i] |= 32
		}
	}
	return string(b)
}

func checkParse(t *testing.T, l []api.Val) {
	t.Helper()
	if got, want := tellDecls(decls.Parse(l)), tellDecls(referenceParse(l)); got != want {
		t.Fatalf("Parse of %s: %s, want %s", tell(l), got, want)
	}
}

// P7.1 against the second reading: all short lists of the values that matter, behind a name and without it, and wild ones.
func TestAgainstReference(t *testing.T) {
	few := list(a, white, colon, bang, marker, semi)
	probe.Each(few, 6, func(l []api.Val) {
		checkParse(t, l)
		checkParse(t, append(list(name("X"), colon), l...))
	})
	many := list(name("--A"), white, colon, bang, markerOdd, semi, round(bang, semi), numbered(bang), filled(semi), rounded(marker), noKind)
	probe.Each(many, 3, func(l []api.Val) {
		checkParse(t, l)
		checkParse(t, append(list(white, a, white, colon), l...))
		checkParse(t, append(append(list(a, colon, b), l...), bang, marker))
	})
	w := probe.NewWild(3)
	for range 5000 {
		l := append(list(a, colon), w.Vals(2)...)
		l = append(append(append(l, bang, marker, semi, b, colon), w.Vals(3)...), semi)
		checkParse(t, append(l, w.Vals(1)...))
	}
}

// referenceMay asks whether d is parsed from its own values, whose text is read back, and is so alone.
func referenceMay(d api.Decl) bool {
	l := decls.Vals(d)
	back, err := split.Read(split.Text(l))
	return err == api.OK && tell(back) == tell(l) && tellDecls(decls.Parse(back)) == tellDecls(declsOf(d))
}

// P7.3 and the first half of P7.4: valid declarations, and no others, are parsed from their Vals, also as texts.
func TestValidAreParsedBack(t *testing.T) {
	check := func(l []api.Decl) {
		t.Helper()
		valid := true
		for _, d := range l {
			valid = valid && referenceMay(d)
		}
		if decls.May(l) != valid {
			t.Fatalf("May of %s is %t", tellDecls(l), !valid)
		}
		if back := decls.Parse(decls.Vals(l...)); valid && (tellDecls(back) != tellDecls(l) || !decls.Same(back, l)) {
			t.Fatalf("%s is parsed back %s", tellDecls(l), tellDecls(back))
		}
	}
	alphabet := list(a, marker, white, colon, bang, semi, round(bang, white), sign(")"), numbered(bang), name(""), noKind)
	probe.Each(alphabet, 3, func(l []api.Val) {
		for _, name := range []string{"a", "A", "--A", "important", "", "1"} {
			check(declsOf(decl(name, l...)))
			check(declsOf(important(name, l...)))
		}
	})
	w := probe.NewWild(4)
	for range 20000 {
		check(w.Decls())
	}
	for kind := api.ValRound; kind <= api.ValFunc; kind++ {
		check(declsOf(important("a", nested(kind, 56)...), decl("b", nested(kind, 56)...)))
	}
}

func checkText(t *testing.T, s string) {
	t.Helper()
	l, err := split.Read(s)
	if err != api.OK {
		return
	}
	checkParse(t, l)
	got := decls.Parse(l)
	if !decls.May(got) {
		t.Fatalf("%q is parsed %s, which is not valid", s, tellDecls(got))
	}
	v := decls.Vals(got...)
	back, err := split.Read(split.Text(v))
	if err != api.OK || !decls.Same(decls.Parse(v), got) || !decls.Same(decls.Parse(back), got) {
		t.Fatalf("%q, that is %s, is parsed back %s", s, tellDecls(got), tellDecls(decls.Parse(v)))
	}
}

// P7.4, its second half: declarations parsed from the values of a string are valid.
func TestParsedAreValid(t *testing.T) {
	var c probe.Chance = 7
	pieces := []string{"a", "--A", "B", " ", ":", ":", ";", "!", "important", "!Important", "(", ")", "{", "}", "[", "]", "f(", "1", "'", "/*", "*/", "<", "/", "\xff", "-", "."}
	for range 30000 {
		s := "a:"
		for range c.Below(14) {
			s += pieces[c.Below(len(pieces))]
		}
		checkText(t, s)
		checkText(t, s[c.Below(3):])
	}
}

func FuzzParse(f *testing.F) {
	f.Add("color : RED ! important; x")
	f.Add("--A:{;!};b:c!IMPORTANT;d:)")
	f.Fuzz(checkText)
}
