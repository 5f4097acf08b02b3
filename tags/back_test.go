package tags_test

import (
	"regexp"
	"strings"
	"testing"

	"winnowing/api"
	"winnowing/probe"
	"winnowing/tags"
)

// checkBack: P9.4, on the tags of s. Each of them is valid, but the text of a style element may only stand behind it.
func checkBack(t *testing.T, s string) {
	t.Helper()
	l := tags.All(s)
	for _, x := range l {
		if !tags.May(x) {
			t.Fatalf("All(%q) has %s, which is not valid", s, tellTags(tagsOf(x)))
		}
	}
	text := tags.Text(l)
	back := tags.All(text)
	if tellTags(back) != tellTags(l) {
		t.Fatalf("%q is written %q: %s, not %s", s, text, tellTags(back), tellTags(l))
	}
	if again := tags.Text(back); again != text {
		t.Fatalf("%q is written again as %q", text, again)
	}
}

// A second reading of P9.1: the cases as one expression, in which the first one that applies is taken.
// A byte is one rune in it, so that those from 128 on are single ones.
const (
	refName  = `[A-Za-z][A-Za-z0-9-]*`
	refAttr  = `([^ \t\n\f\r=>/"'<]+)(?:[ \t\n\f\r]*=[ \t\n\f\r]*(?:"([^"]*)(?:"|$)|'([^']*)(?:'|$)|([^ \t\n\f\r>]*)))?`
	refCases = `(?s)^(?:(<!--.*?(?:-->|$)|<![^>]*>?)|</(` + refName + `)[^>]*>?|<(` + refName + `)((?:` + refAttr + `|[ \t\n\f\r=/"'<])*)>?|(.))`
)

var (
	refWords = regexp.MustCompile(refCases)
	refAttrs = regexp.MustCompile(refAttr)
	refStyle = regexp.MustCompile(`(?i)</style(?:[ \t\n\f\r/>]|$)`)
	refSigns = strings.NewReplacer("&amp;", "&", "&lt;", "<", "&gt;", ">", "&quot;", "\"")
)

func widened(s string) string {
	wide := make([]rune, len(s))
	for i := range len(s) {
		wide[i] = rune(s[i])
	}
	return string(wide)
}

func narrowed(wide string) string {
	var b []byte
	for _, r := range wide {
		b = append(b, byte(r))
	}
	return string(b)
}

func reference(s string) []api.Tag {
	var l []api.Tag
	text := ""
	flush := func() {
		if text != "" {
			l = append(l, said(refSigns.Replace(narrowed(text))))
		}
		text = ""
	}
	for wide := widened(s); wide != ""; {
		m := refWords.FindStringSubmatch(wide)
		wide = wide[len(m[0]):]
		if m[9] != "" {
			text += m[9]
			continue
		}
		flush()
		switch {
		case m[2] != "":
			l = append(l, shut(asciiLower(m[2])))
		case m[3] != "":
			l = append(l, open(asciiLower(m[3]), referenceAttrs(m[4])...))
			wide = referenceStyle(&l, wide)
		}
	}
	flush()
	return l
}

func referenceAttrs(wide string) []api.Attr {
	var l []api.Attr
	names := map[string]int{}
	for _, m := range refAttrs.FindAllStringSubmatch(wide, -1) {
		name := asciiLower(narrowed(m[1]))
		names[name]++
		if names[name] == 1 && len(l) < 16 {
			l = append(l, attr(name, refSigns.Replace(narrowed(m[2]+m[3]+m[4]))))
		}
	}
	return l
}

// referenceStyle adds the text of a style element, if l ends with one, and returns what stands behind it.
func referenceStyle(l *[]api.Tag, wide string) string {
	if (*l)[len(*l)-1].Name != "style" || wide == "" {
		return wide
	}
	end := len(wide)
	if at := refStyle.FindStringIndex(wide); at != nil {
		end = at[0]
	}
	if end > 0 {
		*l = append(*l, said(narrowed(wide[:end])))
	}
	return wide[end:]
}

func checkAll(t *testing.T, s string) {
	t.Helper()
	if got, want := tags.All(s), reference(s); tellTags(got) != tellTags(want) {
		t.Fatalf("All(%q) = %s, want %s", s, tellTags(got), tellTags(want))
	}
	checkBack(t, s)
}

// eachText goes through all texts of some words, up to a number of them.
func eachText(words []string, length int, do func(string)) {
	probe.Each(words, length, func(l []string) { do(strings.Join(l, "")) })
}

// eachWild goes through lists of tags that nobody chose.
func eachWild(seed probe.Chance, n int, do func([]api.Tag)) {
	w := probe.NewWild(seed)
	for range n {
		do(w.Tags())
	}
}

// P9.1 and P9.4, on all short texts of the bytes and words that matter.
func TestShortTexts(t *testing.T) {
	check := func(s string) { checkAll(t, s) }
	eachText(strings.Split("<!->/a", ""), 7, check)
	eachText(strings.Split("<>/aB1= \"'&", ""), 5, check)
	eachText([]string{"<a ", "<b", "b", "=", "'", "\"", ">", "/", " ", "\n", "&lt;", "\xff"}, 5, check)
	eachText([]string{"<style>", "<style", "</style", "</STYLE>", "</sty", "le", "<", ">", " ", "/", "a", "<!--", "-->", "&amp;"}, 4, check)
	eachText([]string{"&", "amp", ";", "lt;", "&gt;", "&quot;", "<a>", "<!---->", "</a>"}, 5, check)
}

// P9.1 and P9.4, on texts that nobody chose.
func TestWildTexts(t *testing.T) {
	words := []string{"<p", "<P ", "</p", "<style", "</style", "<!--", "-->", "<!", "<", ">", "/", "=", "'", "\"", " ", "\t", "\f", "a", "B=c", "d='", "e=\"", "&amp;", "&", "lt;", "1", "-", "\xe9", "\x00"}
	var c probe.Chance = 21
	for range 60000 {
		var b strings.Builder
		for range c.Below(16) {
			b.WriteString(words[c.Below(len(words))])
		}
		checkAll(t, b.String())
	}
	var every []byte
	for i := range 256 {
		every = append(every, byte(i))
	}
	for range 5000 {
		checkAll(t, c.Bytes(string(every), 200))
		checkAll(t, "<"+c.Bytes("pP<>/!-='\" a\n&l;t", 100))
	}
}

// P9.4, on the texts of tags that are not valid: what is read from those is.
func TestWildTagsAreReadBack(t *testing.T) {
	eachWild(5, 20000, func(l []api.Tag) { checkAll(t, tags.Text(l)) })
}

func FuzzAll(f *testing.F) {
	f.Add("<p class=a b='&lt;'>x</p><!--y-->z<br/>")
	f.Add("<!doctype html><STYLE a>b</styles></style ><a a=b A=c")
	f.Fuzz(func(t *testing.T, s string) { checkAll(t, s) })
}
