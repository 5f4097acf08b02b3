package tags_test

import (
	"strings"
	"testing"

	"winnowing/api"
	"winnowing/tags"
)

// P9.1, the void elements.
func TestVoid(t *testing.T) {
	for _, name := range []string{"br", "hr", "img", "input", "link", "meta"} {
		if !tags.Void(name) {
			t.Errorf("%q is void", name)
		}
		for _, other := range []string{strings.ToUpper(name), name + " ", " " + name, name + "s", name[1:], name[:len(name)-1], "<" + name + ">"} {
			if tags.Void(other) {
				t.Errorf("%q is not void", other)
			}
		}
	}
	for _, name := range []string{"", "a", "p", "style", "area", "base", "col", "embed", "source", "track", "wbr", "image", "brhr", "Br", "\x00", "\xff"} {
		if tags.Void(name) {
			t.Errorf("%q is not void", name)
		}
	}
}

// P9.1, case 1, comments.
func TestComments(t *testing.T) {
	lexes{
		{"<!---->", nil},
		{"<!-- x -->", nil},
		{"a<!--x-->b", tagsOf(said("a"), said("b"))},
		{"<!--<p>&amp;</p>-->b", tagsOf(said("b"))},
		{"<!-->-->b", tagsOf(said("b"))},
		{"<!--->-->b", tagsOf(said("b"))},
		{"<!---->-->b", tagsOf(said("-->b"))},
		{"<!-----><b>", tagsOf(open("b"))},
		{"<!--a--b->c-- >-->d", tagsOf(said("d"))},
		{"<!--a--!>b-->c", tagsOf(said("c"))},
		{"<!--<!---->-->", tagsOf(said("-->"))},
		{"<!--a--><!--b-->", nil},
		{"a<!-- b", tagsOf(said("a"))},
		{"<!--", nil},
		{"<!-->", nil},
		{"<!--->", nil},
		{"<!--a--", nil},
		{"<!--a->b", nil},
		{"-->", tagsOf(said("-->"))},
	}.check(t)
}

// P9.1, case 1, declarations.
func TestDeclarations(t *testing.T) {
	lexes{
		{"<!doctype html>a", tagsOf(said("a"))},
		{"a<!>b", tagsOf(said("a"), said("b"))},
		{"<!->a", tagsOf(said("a"))},
		{"<!- ->a-->b", tagsOf(said("a-->b"))},
		{"<!x '>'>a", tagsOf(said("'>a"))},
		{"<!x <p>a", tagsOf(said("a"))},
		{"<!x<!--y-->a", tagsOf(said("a"))},
		{"<! -- >a", tagsOf(said("a"))},
		{"<!", nil},
		{"<!-", nil},
		{"a<!x", tagsOf(said("a"))},
		{"< !x>", tagsOf(said("< !x>"))},
		{"<?x>", tagsOf(said("<?x>"))},
	}.check(t)
}

// P9.1, case 2.
func TestShutTags(t *testing.T) {
	lexes{
		{"</p>", tagsOf(shut("p"))},
		{"</H1>a", tagsOf(shut("h1"), said("a"))},
		{"</aZ-9->", tagsOf(shut("az-9-"))},
		{"</p >a", tagsOf(shut("p"), said("a"))},
		{"</p class=x>a", tagsOf(shut("p"), said("a"))},
		{"</p a='>'>b", tagsOf(shut("p"), said("'>b"))},
		{"</p<b>c", tagsOf(shut("p"), said("c"))},
		{"</p<!--x-->c", tagsOf(shut("p"), said("c"))},
		{"</p/>c", tagsOf(shut("p"), said("c"))},
		{"</p_q>", tagsOf(shut("p"))},
		{"</p\xe9>", tagsOf(shut("p"))},
		{"</br>", tagsOf(shut("br"))},
		{"</style>a<b>", tagsOf(shut("style"), said("a"), open("b"))},
		{"</p", tagsOf(shut("p"))},
		{"</p x", tagsOf(shut("p"))},
		{"</p></p>", tagsOf(shut("p"), shut("p"))},
		{"</", tagsOf(said("</"))},
		{"</>", tagsOf(said("</>"))},
		{"</ p>", tagsOf(said("</ p>"))},
		{"</1>", tagsOf(said("</1>"))},
		{"</-p>", tagsOf(said("</-p>"))},
		{"</\xe9>", tagsOf(said("</\xe9>"))},
		{"< /p>", tagsOf(said("< /p>"))},
		{"<//p>", tagsOf(said("<//p>"))},
		{"</</p>", tagsOf(said("</"), shut("p"))},
	}.check(t)
}

// P9.1, case 3, names of tags and their ends.
func TestOpenTags(t *testing.T) {
	lexes{
		{"<p>", tagsOf(open("p"))},
		{"<H1>a", tagsOf(open("h1"), said("a"))},
		{"<aZ-9->", tagsOf(open("az-9-"))},
		{"<p >a", tagsOf(open("p"), said("a"))},
		{"<p\n\t>a", tagsOf(open("p"), said("a"))},
		{"<br/>a", tagsOf(open("br"), said("a"))},
		{"<p / / >a", tagsOf(open("p"), said("a"))},
		{"<p", tagsOf(open("p"))},
		{"<p ", tagsOf(open("p"))},
		{"<p/", tagsOf(open("p"))},
		{"<p><p>", tagsOf(open("p"), open("p"))},
		{"<p<b>", tagsOf(open("p", attr("b", "")))},
		{"<p<!--x-->c", tagsOf(open("p", attr("!--x--", "")), said("c"))},
		{"<p></p>", tagsOf(open("p"), shut("p"))},
		{"<p>>", tagsOf(open("p"), said(">"))},
		{"<", tagsOf(said("<"))},
		{"<>", tagsOf(said("<>"))},
		{"< p>", tagsOf(said("< p>"))},
		{"<1>", tagsOf(said("<1>"))},
		{"<-p>", tagsOf(said("<-p>"))},
		{"<\xe9>", tagsOf(said("<\xe9>"))},
		{"<<p>", tagsOf(said("<"), open("p"))},
	}.check(t)
}

// P9.1: which bytes a tag's name has.
func TestTagNames(t *testing.T) {
	const first = "ABCDEFGHIJKLMNOPQRSTUVWXYZabcdefghijklmnopqrstuvwxyz"
	eachByte(func(c string) {
		low := asciiLower(c)
		if strings.Contains(first, c) {
			lexes{{"<" + c + ">", tagsOf(open(low))}, {"</" + c + ">", tagsOf(shut(low))}}.check(t)
		} else if c != "!" && c != "/" {
			lexes{{"<" + c + ">", tagsOf(said("<" + c + ">"))}, {"</" + c + ">", tagsOf(said("</" + c + ">"))}}.check(t)
		}
		name := "p"
		if strings.Contains(first+"0123456789-", c) {
			name = "p" + low
		}
		if got := tags.All("<p" + c); len(got) != 1 || got[0].Name != name {
			t.Errorf("%q: %s", c, tellTags(got))
		}
		if got := tags.All("</p" + c); len(got) != 1 || got[0].Name != name {
			t.Errorf("%q: %s", c, tellTags(got))
		}
	})
}

// P9.1, case 3, names of attributes.
func TestAttrNames(t *testing.T) {
	lexes{
		{"<p a>", tagsOf(open("p", attr("a", "")))},
		{"<p A-b_9.:@>", tagsOf(open("p", attr("a-b_9.:@", "")))},
		{"<p a b\tc\n>", tagsOf(open("p", attr("a", ""), attr("b", ""), attr("c", "")))},
		{"<p a/b>", tagsOf(open("p", attr("a", ""), attr("b", "")))},
		{"<p a<b>", tagsOf(open("p", attr("a", ""), attr("b", "")))},
		{"<p a\"b'c>", tagsOf(open("p", attr("a", ""), attr("b", ""), attr("c", "")))},
		{"<p 1>", tagsOf(open("p", attr("1", "")))},
		{"<p &amp;>", tagsOf(open("p", attr("&amp;", "")))},
		{"<p \x00\xc9>", tagsOf(open("p", attr("\x00\xc9", "")))},
		{"<p_a>", tagsOf(open("p", attr("_a", "")))},
		{"<p =a>", tagsOf(open("p", attr("a", "")))},
		{"<p = a>", tagsOf(open("p", attr("a", "")))},
		{"<p \"a\">", tagsOf(open("p", attr("a", "")))},
		{"<p 'a>b'>", tagsOf(open("p", attr("a", "")), said("b'>"))},
		{"<p a", tagsOf(open("p", attr("a", "")))},
		{"<p a ", tagsOf(open("p", attr("a", "")))},
		{"</p a>", tagsOf(shut("p"))},
	}.check(t)
	eachByte(func(c string) {
		if strings.Contains(blanks+"=>/\"'<", c) {
			return
		}
		low := asciiLower(c)
		lexes{{"<p x" + c + "=y>", tagsOf(open("p", attr("x"+low, "y")))}, {"<p " + c + ">", tagsOf(open("p", attr(low, "")))}}.check(t)
	})
}

// P9.1, case 3, values.
func TestValues(t *testing.T) {
	lexes{
		{"<p a=b>", tagsOf(open("p", attr("a", "b")))},
		{"<p a='b'>", tagsOf(open("p", attr("a", "b")))},
		{"<p a=\"b\">", tagsOf(open("p", attr("a", "b")))},
		{"<p a=B>", tagsOf(open("p", attr("a", "B")))},
		{"<p a \t=\n b>", tagsOf(open("p", attr("a", "b")))},
		{"<p a \t=\n 'b'>", tagsOf(open("p", attr("a", "b")))},
		{"<p a=>b", tagsOf(open("p", attr("a", "")), said("b"))},
		{"<p a= >b", tagsOf(open("p", attr("a", "")), said("b"))},
		{"<p a= b=c>", tagsOf(open("p", attr("a", "b=c")))},
		{"<p a=''b>", tagsOf(open("p", attr("a", ""), attr("b", "")))},
		{"<p a='b'c='d'>", tagsOf(open("p", attr("a", "b"), attr("c", "d")))},
		{"<p a='b\"c'>", tagsOf(open("p", attr("a", "b\"c")))},
		{"<p a=\"b'c\">", tagsOf(open("p", attr("a", "b'c")))},
		{"<p a='>'>b", tagsOf(open("p", attr("a", ">")), said("b"))},
		{"<p a='</p><!--\n'>b", tagsOf(open("p", attr("a", "</p><!--\n")), said("b"))},
		{"<p a==b>", tagsOf(open("p", attr("a", "=b")))},
		{"<p a=b'c\"d>", tagsOf(open("p", attr("a", "b'c\"d")))},
		{"<p a=b/>c", tagsOf(open("p", attr("a", "b/")), said("c"))},
		{"<p a=/>c", tagsOf(open("p", attr("a", "/")), said("c"))},
		{"<p a=<b>c", tagsOf(open("p", attr("a", "<b")), said("c"))},
		{"<p a=b=c d>", tagsOf(open("p", attr("a", "b=c"), attr("d", "")))},
		{"<p a/=b>", tagsOf(open("p", attr("a", ""), attr("b", "")))},
		{"<p a =b c= d e = f g>", tagsOf(open("p", attr("a", "b"), attr("c", "d"), attr("e", "f"), attr("g", "")))},
		{"<p a='b", tagsOf(open("p", attr("a", "b")))},
		{"<p a='b>c</p>", tagsOf(open("p", attr("a", "b>c</p>")))},
		{"<p a=\"b'>", tagsOf(open("p", attr("a", "b'>")))},
		{"<p a='", tagsOf(open("p", attr("a", "")))},
		{"<p a=b", tagsOf(open("p", attr("a", "b")))},
		{"<p a=", tagsOf(open("p", attr("a", "")))},
		{"<p a= ", tagsOf(open("p", attr("a", "")))},
		{"<p a='b'", tagsOf(open("p", attr("a", "b")))},
	}.check(t)
	eachByte(func(c string) {
		if c == ">" || strings.Contains(blanks, c) {
			lexes{{"<p a=b" + c, tagsOf(open("p", attr("a", "b")))}}.check(t)
			return
		}
		lexes{{"<p a=b" + c + " d>", tagsOf(open("p", attr("a", "b"+c), attr("d", "")))}}.check(t)
	})
	eachByte(func(c string) {
		if c != "'" {
			lexes{{"<p a='" + c + "'b>", tagsOf(open("p", attr("a", c), attr("b", "")))}}.check(t)
		}
	})
}

// The blanks of the chapter, wherever one is asked for, and others that are none.
func TestBlanks(t *testing.T) {
	for _, c := range strings.Split(blanks, "") {
		lexes{
			{"<p" + c + "a" + c + "=" + c + "b" + c + "d>", tagsOf(open("p", attr("a", "b"), attr("d", "")))},
			{"<style>a</style" + c + "b>c", tagsOf(open("style"), said("a"), shut("style"), said("c"))},
		}.check(t)
	}
	for i := range len(notBlanks) {
		c := notBlanks[i : i+1]
		lexes{
			{"<p a" + c + "=" + c + "b" + c + "d>", tagsOf(open("p", attr("a"+c, c+"b"+c+"d")))},
			{"<style>a</style" + c + "b>c", tagsOf(open("style"), said("a</style"+c+"b>c"))},
		}.check(t)
	}
}

// P9.1, case 3: the first attribute of a name counts.
func TestSameAttr(t *testing.T) {
	lexes{
		{"<p a=b a=c>", tagsOf(open("p", attr("a", "b")))},
		{"<p a=b A=c>", tagsOf(open("p", attr("a", "b")))},
		{"<p a a=c>", tagsOf(open("p", attr("a", "")))},
		{"<p a=b c=d a='>'e>f", tagsOf(open("p", attr("a", "b"), attr("c", "d"), attr("e", "")), said("f"))},
		{"<p a=b><p a=c>", tagsOf(open("p", attr("a", "b")), open("p", attr("a", "c")))},
		{"<p \xc9 \xe9>", tagsOf(open("p", attr("\xc9", ""), attr("\xe9", "")))},
	}.check(t)
}

func TestManyAttrs(t *testing.T) {
	for n := range 40 {
		l := manyAttrs(n)
		var s strings.Builder
		for _, a := range l {
			s.WriteString(" " + a.Name + "=" + a.Value + " a00='>'")
		}
		lexes{{"<p" + s.String() + ">b", tagsOf(open("p", l[:min(n, api.MaxAttrs)]...), said("b"))}}.check(t)
	}
}

// P9.1, case 3, what stands in a style element.
func TestStyle(t *testing.T) {
	style, end := open("style"), shut("style")
	lexes{
		{"<style>a</style>b", tagsOf(style, said("a"), end, said("b"))},
		{"<STYLE>a</STYLE>b", tagsOf(style, said("a"), end, said("b"))},
		{"<sTyLe>a</StYlE>b", tagsOf(style, said("a"), end, said("b"))},
		{"<style></style>b", tagsOf(style, end, said("b"))},
		{"<style>a&lt;<b>c</b><!--</p>--></style>", tagsOf(style, said("a&lt;<b>c</b><!--</p>-->"), end)},
		{"<style><!-- </style> -->", tagsOf(style, said("<!-- "), end, said(" -->"))},
		{"<style>&amp;amp;</style>", tagsOf(style, said("&amp;amp;"), end)},
		{"<style>'</style>'</style>", tagsOf(style, said("'"), end, said("'"), end)},
		{"<style>a</style", tagsOf(style, said("a"), end)},
		{"<style>a</style/b>c", tagsOf(style, said("a"), end, said("c"))},
		{"<style>a</style b>c", tagsOf(style, said("a"), end, said("c"))},
		{"<style>a</styles></style>", tagsOf(style, said("a</styles>"), end)},
		{"<style>a</style-></style>", tagsOf(style, said("a</style->"), end)},
		{"<style>a</style_></style>", tagsOf(style, said("a</style_>"), end)},
		{"<style>a</style<></style>", tagsOf(style, said("a</style<>"), end)},
		{"<style></style</style>", tagsOf(style, said("</style"), end)},
		{"<style></styl></style>", tagsOf(style, said("</styl>"), end)},
		{"<style>< /style></ style></style>", tagsOf(style, said("< /style></ style>"), end)},
		{"<style>a<style></style></style>", tagsOf(style, said("a<style>"), end, end)},
		{"<style> </style>", tagsOf(style, said(" "), end)},
		{"<style>\x00\xff\r</style>", tagsOf(style, said("\x00\xff\r"), end)},
		{"<style>a", tagsOf(style, said("a"))},
		{"<style>a</styl", tagsOf(style, said("a</styl"))},
		{"<style>", tagsOf(style)},
		{"<style", tagsOf(style)},
		{"<style a='>'>b", tagsOf(open("style", attr("a", ">")), said("b"))},
		{"<style/>b</style>", tagsOf(style, said("b"), end)},
		{"<style a=b", tagsOf(open("style", attr("a", "b")))},
		{"<styles>a<b>", tagsOf(open("styles"), said("a"), open("b"))},
		{"<p style>a<b>", tagsOf(open("p", attr("style", "")), said("a"), open("b"))},
		{"<script>a<b>", tagsOf(open("script"), said("a"), open("b"))},
		{"</style>a<b>", tagsOf(end, said("a"), open("b"))},
		{"<style>a</\u017ftyle>b</style>", tagsOf(style, said("a</\u017ftyle>b"), end)},
	}.check(t)
	eachByte(func(c string) {
		if strings.Contains(blanks+"/>", c) {
			lexes{{"<style>a</style" + c, tagsOf(style, said("a"), end)}}.check(t)
			return
		}
		for _, inner := range []string{"a</style" + c, "a</style" + c + "x", "a</style" + c + ">"} {
			lexes{{"<style>" + inner, tagsOf(style, said(inner))}}.check(t)
		}
	})
}

// P9.1, case 4.
func TestTexts(t *testing.T) {
	lexes{
		{"", nil},
		{"a", tagsOf(said("a"))},
		{" \n", tagsOf(said(" \n"))},
		{"1 < 2 > 3 <= 4", tagsOf(said("1 < 2 > 3 <= 4"))},
		{"a</>b</ c", tagsOf(said("a</>b</ c"))},
		{"<<<", tagsOf(said("<<<"))},
		{"a<b>c", tagsOf(said("a"), open("b"), said("c"))},
		{"a</b>c", tagsOf(said("a"), shut("b"), said("c"))},
		{"a<!b>c<!---->d", tagsOf(said("a"), said("c"), said("d"))},
		{"a<", tagsOf(said("a<"))},
		{"a</", tagsOf(said("a</"))},
		{"<3<b>", tagsOf(said("<3"), open("b"))},
		{"</3</b>", tagsOf(said("</3"), shut("b"))},
		{"\x00\xff\v", tagsOf(said("\x00\xff\v"))},
		{"a=\"b\" 'c'", tagsOf(said("a=\"b\" 'c'"))},
	}.check(t)
	eachByte(func(c string) {
		lexes{{c, tagsOf(said(c))}, {"a" + c + "1<p>", tagsOf(said("a"+c+"1"), open("p"))}}.check(t)
	})
}

// Character references, in texts and in values of each form.
func TestReferences(t *testing.T) {
	for _, c := range [][2]string{
		{"&amp;", "&"}, {"&lt;", "<"}, {"&gt;", ">"}, {"&quot;", "\""}, {"&amp;&lt;&gt;&quot;", "&<>\""}, {"a&amp;b", "a&b"},
		{"&amp;lt;", "&lt;"}, {"&amp;amp;amp;", "&amp;amp;"}, {"&&amp;;", "&&;"}, {"&lt;b&gt;", "<b>"}, {"&amp;quot;", "&quot;"}, {"&am&amp;p;", "&am&p;"},
		{"&", "&"}, {"&;", "&;"}, {"&amp", "&amp"}, {"&lt", "&lt"}, {"&AMP;", "&AMP;"}, {"&Lt;", "&Lt;"}, {"amp;", "amp;"}, {"&amp;&lt", "&&lt"},
		{"&apos;", "&apos;"}, {"&nbsp;", "&nbsp;"}, {"&#60;", "&#60;"}, {"&#x3c;", "&#x3c;"}, {"&quo;", "&quo;"}, {"&ampx;", "&ampx;"}, {"\xff&lt;\x00", "\xff<\x00"},
	} {
		want := open("p", attr("a", c[1]))
		lexes{
			{c[0], tagsOf(said(c[1]))},
			{"<p a='" + c[0] + "'>", tagsOf(want)},
			{"<p a=\"" + c[0] + "\">", tagsOf(want)},
			{"<p a=" + c[0] + ">", tagsOf(want)},
			{"<p a='" + c[0], tagsOf(want)},
			{"<style>" + c[0], tagsOf(open("style"), said(c[0]))},
			{"<p " + c[0] + ">", tagsOf(open("p", attr(asciiLower(c[0]), "")))},
		}.check(t)
	}
	lexes{
		{"&lt;p>", tagsOf(said("<p>"))},
		{"&lt;!--x-->", tagsOf(said("<!--x-->"))},
		{"&am<!---->p;", tagsOf(said("&am"), said("p;"))},
		{"&l<p>t;", tagsOf(said("&l"), open("p"), said("t;"))},
		{"<p a=&quot;b c&quot;>", tagsOf(open("p", attr("a", "\"b"), attr("c&quot;", "")))},
		{"<p a=\"&quot;\">", tagsOf(open("p", attr("a", "\"")))},
	}.check(t)
}
