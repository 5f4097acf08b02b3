package tags_test

import (
	"math"
	"strings"
	"testing"

	"winnowing/api"
	"winnowing/tags"
)

// P9.3, tags that are valid.
func TestValid(t *testing.T) {
	for _, x := range []api.Tag{
		open("p"), open("h1"), open("x-"), open("br"), open("style"), open("style", attr("a", "b")), open("a-9", attr("x", "")),
		open("p", attr("a", "B c"), attr("b", `&<>"'=/`), attr("\x00\xff&;!", "\n\x00\xff")), open("p", manyAttrs(api.MaxAttrs)...), open("style", manyAttrs(api.MaxAttrs)...),
		open("p", attr("a", "&amp;"), attr("&amp;", "")), open("p", attr("a", "</p>")), open("style", attr("a", "</style>")),
		shut("p"), shut("h1"), shut("br"), shut("style"), shut("x-"),
		said("a"), said(" "), said("<"), said("&"), said("&amp;"), said("<p>"), said("<!---->"), said("</style>"), said("\x00\xff\n\"'"),
	} {
		if !tags.May(x) {
			t.Errorf("%s is valid", tellTags(tagsOf(x)))
		}
		l := tagsOf(x)
		if got := tags.All(tags.Text(l)); tellTags(got) != tellTags(l) {
			t.Errorf("%s is read back as %s", tellTags(l), tellTags(got))
		}
	}
}

// P9.3, tags that are not.
func TestInvalid(t *testing.T) {
	withText := func(x api.Tag) api.Tag { x.Text = "a"; return x }
	withAttr := func(x api.Tag) api.Tag { x.Attrs = []api.Attr{attr("a", "")}; return x }
	withName := func(x api.Tag) api.Tag { x.Name = "p"; return x }
	for _, x := range []api.Tag{
		{}, {Kind: -1}, {Kind: 4}, {Kind: math.MinInt}, {Kind: math.MaxInt}, {Kind: 4, Name: "p"}, {Name: "p"}, {Text: "a"},
		said(""), withAttr(said("a")), withName(said("a")), {Kind: api.TagText, Name: "p"},
		open(""), open("P"), open("h1 "), open(" p"), open("1"), open("-p"), open("p>"), open("p/"), open("p_"), open("p\xe9"), open("!--"), open("/p"), open("STYLE"), open("p a=\"b\""), open("b></b"),
		{Kind: api.TagOpen, Text: "<>"}, {Kind: api.TagShut, Text: "</>"}, {Kind: api.TagOpen, Name: "1", Text: "<1>"},
		withText(open("p")), withText(open("style")), withText(shut("p")), withAttr(shut("p")),
		shut(""), shut("P"), shut("p "), shut("1"), shut("p x"), shut("p>a"), shut("p></b"),
		open("p", attr("", "")), open("p", attr("", "b")), open("p", attr("A", "")), open("p", attr("a ", "")), open("p", attr("a\n", "b")), open("p", attr("a b", "")), open("p", attr("a=", "")), open("p", attr("a>", "")),
		open("p", attr("a/", "")), open("p", attr("<a", "")), open("p", attr(`"`, "")), open("p", attr("a'", "")), open("p", attr("a", "b"), attr("a", "b")), open("p", attr("a", "b"), attr("c", ""), attr("a", "d")),
		open("p", manyAttrs(api.MaxAttrs+1)...), open("style", manyAttrs(api.MaxAttrs+1)...), open("p", attr(`a="b" c`, "d")), open("style", attr("A", "")),
	} {
		if tags.May(x) {
			t.Errorf("%s is not valid", tellTags(tagsOf(x)))
		}
	}
}

// P9.3: the bytes of names and texts.
func TestValidBytes(t *testing.T) {
	const low, digits = "abcdefghijklmnopqrstuvwxyz", "0123456789-"
	eachByte(func(c string) {
		first := strings.Contains(low, c)
		later := first || strings.Contains(digits, c)
		inAttr := !strings.Contains(blanks+"=>/\"'<", c) && (c < "A" || "Z" < c)
		for _, x := range []struct {
			tag  api.Tag
			want bool
		}{
			{open(c), first}, {shut(c), first}, {open("p" + c), later}, {shut("p" + c), later}, {open("p" + c + "p"), later},
			{open("p", attr(c, "")), inAttr}, {open("p", attr("a"+c+"a", "")), inAttr}, {open("p", attr("a", c)), true}, {said(c), true}, {said("a" + c), true},
		} {
			if got := tags.May(x.tag); got != x.want {
				t.Errorf("May of %s is %t", tellTags(tagsOf(x.tag)), got)
			}
		}
	})
}

// isValid is a second reading of P9.3, which looks at the fields.
func isValid(x api.Tag) bool {
	names := map[string]int{}
	for _, a := range x.Attrs {
		names[a.Name]++
		if names[a.Name] > 1 || a.Name == "" || strings.ContainsAny(a.Name, blanks+"=>/\"'<") || asciiLower(a.Name) != a.Name {
			return false
		}
	}
	const letters = "abcdefghijklmnopqrstuvwxyz"
	isName := strings.Trim(x.Name, letters+"0123456789-") == "" && x.Name != "" && strings.Contains(letters, x.Name[:1])
	switch x.Kind {
	case api.TagOpen:
		return isName && x.Text == "" && len(x.Attrs) <= 16
	case api.TagShut:
		return isName && x.Text == "" && len(x.Attrs) == 0
	case api.TagText:
		return x.Name == "" && x.Text != "" && len(x.Attrs) == 0
	}
	return false
}

// P9.3, on tags that nobody chose.
func TestWildMay(t *testing.T) {
	count := map[bool]int{}
	eachWild(11, 30000, func(l []api.Tag) {
		for _, x := range l {
			want := isValid(x)
			if got := tags.May(x); got != want {
				t.Fatalf("May of %s is %t", tellTags(tagsOf(x)), got)
			}
			alone := tagsOf(x)
			if x.Kind == api.TagOpen && x.Name == "style" {
				alone = append(alone, shut("style"))
			}
			if back := tellTags(tags.All(tags.Text(alone))) == tellTags(alone); back != want {
				t.Fatalf("%s is read back: %t", tellTags(alone), back)
			}
			count[want]++
		}
	})
	if count[true] < 10000 || count[false] < 5000 {
		t.Error(count)
	}
}
