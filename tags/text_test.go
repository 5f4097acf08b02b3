package tags_test

import (
	"math"
	"strings"
	"testing"

	"winnowing/api"
	"winnowing/tags"
)

// P9.2, the text of one tag, which is also that of a list of it alone.
func TestOne(t *testing.T) {
	for _, c := range []struct {
		x    api.Tag
		want string
	}{
		{open("p"), "<p>"}, {open("br"), "<br>"}, {open("style"), "<style>"}, {shut("p"), "</p>"}, {shut("br"), "</br>"}, {said("a"), "a"}, {said(""), ""},
		{open("p", attr("a", "b")), `<p a="b">`}, {open("p", attr("a", "")), `<p a="">`}, {open("p", attr("a", "b c"), attr("d", "'")), `<p a="b c" d="'">`},
		{open("p", attr("a", `&<>"'`)), `<p a="&amp;&lt;&gt;&quot;'">`}, {said(`&<>"'`), "&amp;&lt;&gt;&quot;'"}, {said("&amp;&&lt"), "&amp;amp;&amp;&amp;lt"},
		{said("<p>"), "&lt;p&gt;"}, {said("<!---->"), "&lt;!----&gt;"}, {said("\x00\xff\n"), "\x00\xff\n"}, {open("p", attr("a", "\x00\xff\n")), "<p a=\"\x00\xff\n\">"},
		{api.Tag{}, ""}, {api.Tag{Kind: -1}, ""}, {api.Tag{Kind: 4}, ""}, {api.Tag{Kind: math.MinInt}, ""}, {api.Tag{Kind: math.MaxInt}, ""},
		{api.Tag{Kind: 4, Name: "p", Text: "a", Attrs: []api.Attr{attr("a", "b")}}, ""},
		{open(""), "<>"}, {shut(""), "</>"}, {open("A b"), "<A b>"}, {shut("<"), "</<>"}, {open("&"), "<&>"},
		{open("p", attr("", "")), `<p ="">`}, {open("p", attr("A", "b"), attr("A", "c")), `<p A="b" A="c">`}, {open("p", attr(`&"<>`, "b")), `<p &"<>="b">`},
	} {
		if got := tags.One(c.x); got != c.want {
			t.Errorf("One of %s is %q, want %q", tellTags(tagsOf(c.x)), got, c.want)
		}
		writes{{tagsOf(c.x), c.want}}.check(t)
	}
	for n := range 20 {
		want := "<p"
		for _, a := range manyAttrs(n) {
			want += " " + a.Name + `="` + a.Value + `"`
		}
		if got := tags.One(open("p", manyAttrs(n)...)); got != want+">" {
			t.Errorf("%d attributes: %q", n, got)
		}
	}
}

// P9.2, character references: which bytes have one.
func TestReferencesAreWritten(t *testing.T) {
	names := map[string]string{"&": "&amp;", "<": "&lt;", ">": "&gt;", "\"": "&quot;"}
	eachByte(func(c string) {
		want := c
		if names[c] != "" {
			want = names[c]
		}
		writes{{tagsOf(said("a" + c)), "a" + want}, {tagsOf(open("p", attr("a", c))), `<p a="` + want + `">`}, {tagsOf(open("style"), said(c)), "<style>" + c}}.check(t)
	})
}

// P9.2: a field that is not of a kind does not show.
func TestOtherFields(t *testing.T) {
	for _, x := range []api.Tag{open("p"), open("p", attr("a", "b")), shut("p"), said("a"), {Kind: 9}} {
		y := x
		if x.Kind != api.TagText {
			y.Text = "text"
		} else {
			y.Name = "name"
		}
		if x.Kind != api.TagOpen {
			y.Attrs = []api.Attr{attr("x", "y")}
		}
		if tags.One(y) != tags.One(x) {
			t.Errorf("One of %s is %q", tellTags(tagsOf(y)), tags.One(y))
		}
	}
}

// P9.2, lists: texts beside each other, and in a style element.
func TestText(t *testing.T) {
	style, end, nothing := open("style"), shut("style"), api.Tag{Kind: 9, Name: "style", Text: "x"}
	raw := said("a<&\"")
	const esc = "a&lt;&amp;&quot;"
	writes{
		{nil, ""},
		{tagsOf(open("p"), said("a"), shut("p")), "<p>a</p>"},
		{tagsOf(open("p"), open("b"), shut("b"), shut("i")), "<p><b></b></i>"},
		{tagsOf(said("a"), said("b")), "a<!---->b"},
		{tagsOf(said("a"), said("b"), said("c")), "a<!---->b<!---->c"},
		{tagsOf(said(""), said("")), "<!---->"},
		{tagsOf(said("<"), said(">")), "&lt;<!---->&gt;"},
		{tagsOf(said("a"), open("p"), said("b"), shut("p"), said("c")), "a<p>b</p>c"},
		{tagsOf(style, raw), "<style>a<&\""},
		{tagsOf(style, raw, end), "<style>a<&\"</style>"},
		{tagsOf(open("style", attr("a", "&")), raw, end), "<style a=\"&amp;\">a<&\"</style>"},
		{tagsOf(style, said(""), end), "<style></style>"},
		{tagsOf(style, raw, raw), "<style>a<&\"<!---->" + esc},
		{tagsOf(style, raw, raw, raw), "<style>a<&\"<!---->" + esc + "<!---->" + esc},
		{tagsOf(raw, style, raw), esc + "<style>a<&\""},
		{tagsOf(style, style, raw), "<style><style>a<&\""},
		{tagsOf(style, said("</style>"), end), "<style></style></style>"},
		{tagsOf(end, raw), "</style>" + esc},
		{tagsOf(style, end, raw), "<style></style>" + esc},
		{tagsOf(style, open("b"), raw), "<style><b>" + esc},
		{tagsOf(open("STYLE"), raw), "<STYLE>" + esc},
		{tagsOf(open("styles"), raw), "<styles>" + esc},
		{tagsOf(open("p", attr("style", "")), raw), "<p style=\"\">" + esc},
		{tagsOf(nothing, raw), esc},
		{tagsOf(style, nothing, raw), "<style>" + esc},
		{tagsOf(raw, nothing, raw), esc + esc},
		{tagsOf(api.Tag{Kind: api.TagText, Name: "style"}, raw), "<!---->" + esc},
		{tagsOf(api.Tag{Kind: api.TagOpen, Name: "p", Text: "style"}, raw), "<p>" + esc},
	}.check(t)
}

// The words of P9.2, on tags that nobody chose: a text is those of its tags, one behind the other.
func TestTextsOfTags(t *testing.T) {
	eachWild(3, 20000, func(l []api.Tag) {
		var want strings.Builder
		for i, x := range l {
			isText := x.Kind == api.TagText
			if isText && i > 0 && l[i-1].Kind == api.TagText {
				want.WriteString("<!---->")
			}
			if isText && i > 0 && l[i-1].Kind == api.TagOpen && l[i-1].Name == "style" {
				want.WriteString(x.Text)
			} else {
				want.WriteString(tags.One(x))
			}
		}
		writes{{l, want.String()}}.check(t)
	})
}

// What is read and written: the examples of the chapter, and others.
func TestReadAndWrite(t *testing.T) {
	for _, c := range [][2]string{
		{"<p class=a>x</p>", `<p class="a">x</p>`},
		{"<A B C='d\"e' b=f>", `<a b="" c="d&quot;e">`},
		{"a > b &amp; &c", "a &gt; b &amp; &amp;c"},
		{"a<!x>b<!--y-->c", "a<!---->b<!---->c"},
		{"<!doctype html>\n<title>x</title>", "\n<title>x</title>"},
		{"<STYLE>a>b{}</Style x>", "<style>a>b{}</style>"},
		{"<p", "<p>"}, {"</p", "</p>"}, {"<p a='b", `<p a="b">`}, {"<style>a</style", "<style>a</style>"}, {"<", "&lt;"}, {"<!--", ""},
	} {
		if got := tags.Text(tags.All(c[0])); got != c[1] {
			t.Errorf("%q is written %q, want %q", c[0], got, c[1])
		}
	}
	if l := tags.All("<p class=a>x</p>"); len(l) != 3 {
		t.Errorf("%d tags", len(l))
	}
}
