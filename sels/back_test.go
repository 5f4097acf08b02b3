package sels_test

import (
	"regexp"
	"strconv"
	"strings"
	"testing"

	"winnowing/api"
	"winnowing/probe"
	"winnowing/sels"
	"winnowing/split"
)

// The writer of the tests: it writes selectors, valid or not, as a text from which valid ones must be read.

func writeList(l []api.Complex) string {
	texts := make([]string, len(l))
	for i, c := range l {
		for _, p := range c.Parts {
			texts[i] += map[int]string{api.CombIn: " ", api.CombChild: ">", api.CombNext: "+", api.CombLater: "~"}[p.Comb] + writeSimples(p.L)
		}
		if c.Pseudo != "" {
			texts[i] += "::" + c.Pseudo
		}
	}
	return strings.Join(texts, ",")
}

func writeSimples(l []api.Simple) string {
	var b strings.Builder
	for _, x := range l {
		b.WriteString(writeSimple(x))
	}
	return b.String()
}

func writeSimple(x api.Simple) string {
	switch x.Kind {
	case api.SimAny:
		return "*"
	case api.SimTag:
		return x.Name
	case api.SimID:
		return "#" + x.Name
	case api.SimClass:
		return "." + x.Name
	case api.SimHas:
		return "[" + x.Name + "]"
	case api.SimIs:
		quote := `"`
		if strings.Contains(x.Value, quote) {
			quote = "'"
		}
		return "[" + x.Name + "=" + quote + x.Value + quote + "]"
	case api.SimState:
		return ":" + x.Name
	case api.SimNth:
		plus := ""
		if x.B >= 0 {
			plus = "+"
		}
		return ":nth-child(" + strconv.Itoa(x.A) + "n" + plus + strconv.Itoa(x.B) + ")"
	case api.SimRoot:
		return ":root"
	case api.SimEmpty:
		return ":empty"
	case api.SimNot:
		return ":not(" + writeSimples(x.L) + ")"
	}
	return ""
}

// P4.3: a list is valid just if it is read back from its text, for selectors that nobody chose.
func TestValidIsReadBack(t *testing.T) {
	w := probe.NewWild(5)
	valid := 0
	for range 60000 {
		l := w.Sels()
		got, _ := sels.Read(writeList(l))
		back := len(l) > 0 && tellSels(got) == tellSels(l)
		if sels.May(l) != back {
			t.Fatalf("May is %t, but %q is read as %s, not %s", !back, writeList(l), tellSels(got), tellSels(l))
		}
		if back {
			valid++
		}
	}
	if valid < 5000 {
		t.Errorf("only %d valid lists", valid)
	}
}

// checkText: P4.4, and Read against Parse.
func checkText(t *testing.T, s string) {
	t.Helper()
	l, err := sels.Read(s)
	v, deep := split.Read(s)
	parsed, parseErr := sels.Parse(v)
	if deep != api.OK {
		parseErr = api.ErrSel
	}
	if err != parseErr || tellSels(l) != tellSels(parsed) {
		t.Fatalf("%q: Read returns %s, %d, and Parse %s, %d", s, tellSels(l), err, tellSels(parsed), parseErr)
	}
	if err != api.OK {
		if err != api.ErrSel || len(l) != 0 || sels.May(l) {
			t.Fatalf("%q: %s, error %d", s, tellSels(l), err)
		}
		return
	}
	back, err := sels.Read(writeList(l))
	if !sels.May(l) || err != api.OK || !sels.Same(back, l) {
		t.Fatalf("%q is %s, read back %s, error %d", s, tellSels(l), tellSels(back), err)
	}
}

// P4.4, on texts made of words of selectors.
func TestListsOfTextsAreValid(t *testing.T) {
	words := []string{"a", "B", ".a", "#b", "*", " ", ">", "+", "~", ",", ":", "::", "before", "hover", "root", ":not(", ":nth-child(", ")", "2n+1", "odd", "[", "]", "=", "'x'", "/**/", "\x80", "-"}
	var c probe.Chance = 9
	read := 0
	for range 100000 {
		var b strings.Builder
		for range 1 + c.Below(8) {
			b.WriteString(words[c.Below(len(words))])
		}
		checkText(t, b.String())
		if _, err := sels.Read(b.String()); err == api.OK {
			read++
		}
	}
	if read < 3000 {
		t.Errorf("only %d texts are selectors", read)
	}
	for range 20000 {
		checkText(t, c.Bytes("aB1.#*[]=':() >+~,-n\n\xff", 12))
	}
}

// letter is a value that stands for one byte in the second reading.
type letter struct {
	byte
	api.Val
}

func letters() []letter {
	return []letter{
		{'n', name("a")}, {'v', name("hover")}, {'b', name("before")}, {'h', probe.Tok(api.Token{Kind: api.TokHash, Text: "a"})},
		{'s', square(name("a"))}, {'f', fn("not", name("a"))}, {'x', num(1, "")},
		{'*', sign("*")}, {'.', sign(".")}, {':', sign(":")}, {' ', white}, {'>', sign(">")}, {',', sign(",")},
	}
}

const (
	refLater    = `(?:h|\.[nvb]|s|:v|:f)`
	refCompound = `(?:[*nvb]` + refLater + `*|` + refLater + `+)`
	refComb     = `(?: *> *| +)`
	refComplex  = `(?:` + refCompound + `(?:` + refComb + refCompound + `)*(?:::b)?|(?:` + refCompound + refComb + `)*::b)`
	refList     = `^ *` + refComplex + ` *(?:, *` + refComplex + ` *)*$`
)

var (
	refLists  = regexp.MustCompile(refList)
	refAround = regexp.MustCompile(` *([>,]|^|$) *`)
	refBlanks = regexp.MustCompile(` +`)
)

// referenceText is a second reading of P4.2: whether the bytes are a list tells one expression,
// and what is in the list tells its text without the blanks that mean nothing.
func referenceText(bytes string) (string, bool) {
	if !refLists.MatchString(bytes) {
		return "", false
	}
	return refBlanks.ReplaceAllString(refAround.ReplaceAllString(bytes, "$1"), " "), true
}

// inLetters replaces the words of a text by the letters that stand for them.
func inLetters(s string) string {
	return strings.NewReplacer("#a", "h", "[a]", "s", ":not(a)", ":f", "hover", "v", "before", "b", "a", "n").Replace(s)
}

// P4.2 against the second reading: all short lists of the values that matter.
func TestAgainstReference(t *testing.T) {
	check := func(l []letter) {
		var bytes []byte
		var v []api.Val
		for _, x := range l {
			bytes, v = append(bytes, x.byte), append(v, x.Val)
		}
		want, ok := referenceText(string(bytes))
		got, err := sels.Parse(v)
		if (err == api.OK) != ok || inLetters(writeList(got)) != want || err == api.OK && !sels.May(got) {
			t.Fatalf("Parse of %q: %q, error %d, want %q", bytes, inLetters(writeList(got)), err, want)
		}
	}
	every := letters()
	probe.Each(every, 4, check)
	var few []letter
	for _, x := range every {
		if strings.IndexByte("nb.: >", x.byte) >= 0 {
			few = append(few, x)
		}
	}
	probe.Each(few, 7, check)
	var c probe.Chance = 4
	for range 100000 {
		l := make([]letter, c.Below(14))
		for i := range l {
			l[i] = every[c.Below(len(every))]
		}
		check(l)
	}
}

func FuzzRead(f *testing.F) {
	f.Add("a > .b:hover, #c::before")
	f.Add("*[x = 'y']:not(:nth-child(2n-1))~d")
	f.Fuzz(checkText)
}
