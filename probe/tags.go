package probe

import (
	"math"
	"strconv"
	"strings"

	"winnowing/api"
)

func Open(name string, l ...api.Attr) api.Tag {
	return api.Tag{Kind: api.TagOpen, Name: name, Attrs: l}
}

func Shut(name string) api.Tag         { return api.Tag{Kind: api.TagShut, Name: name} }
func Said(s string) api.Tag            { return api.Tag{Kind: api.TagText, Text: s} }
func Attr(name, value string) api.Attr { return api.Attr{Name: name, Value: value} }
func Tags(l ...api.Tag) []api.Tag      { return l }

// TellTags writes every field of tags, so that two lists are equal just if they are told alike.
// Empty and nil lists are told alike.
func TellTags(l []api.Tag) string {
	var b strings.Builder
	for _, t := range l {
		b.WriteString(strconv.Itoa(t.Kind) + " " + strconv.Quote(t.Name) + " " + strconv.Quote(t.Text) + " [")
		for _, a := range t.Attrs {
			b.WriteString(strconv.Quote(a.Name) + "=" + strconv.Quote(a.Value) + ",")
		}
		b.WriteString("],")
	}
	return b.String()
}

// OverwriteTags clears every tag, so that whoever shares memory with l is told differently.
func OverwriteTags(l []api.Tag) {
	for i := range l {
		clear(l[i].Attrs)
		l[i] = api.Tag{}
	}
}

// WriteBehindTags writes behind the end of each list, where another one must not lie.
func WriteBehindTags(l []api.Tag) {
	_ = append(l, Said("x"), Said("y"))
	for _, t := range l {
		_ = append(t.Attrs, Attr("x", "x"), Attr("y", "y"))
	}
}

// Tags: tags of every kind and none, with any fields, of which some are valid.
func (w *Wild) Tags() []api.Tag {
	l := make([]api.Tag, w.Below(6))
	for i := range l {
		name := pick(w, "p", "b", "h1", "x-", "br", "style", "style")
		l[i] = pick(w, Open(name, w.attrs()...), Open(name), Shut(name), Said(w.pageBytes()), Said("a"))
		if w.Below(6) == 0 {
			w.spoilTag(&l[i])
		}
	}
	return l
}

// spoilTag sets one field to anything.
func (w *Wild) spoilTag(t *api.Tag) {
	switch w.Below(4) {
	case 0:
		t.Kind = pick(w, math.MinInt, -1, 0, 1, 2, 3, 4, math.MaxInt)
	case 1:
		t.Name = pick(w, "", "a", "A", "STYLE", "style ", "1", "-a", "a b", "a>", "a\"", "<!--", "\xff", w.pageBytes())
	case 2:
		t.Attrs = append(w.attrs(), w.attrs()...)
	case 3:
		t.Text = w.pageBytes()
	}
}

func (w *Wild) attrs() []api.Attr {
	var l []api.Attr
	for range pick(w, 0, 0, 1, 1, 2, 3, api.MaxAttrs, api.MaxAttrs+1) {
		name := "a" + strconv.Itoa(len(l))
		if w.Below(20) == 0 {
			name = pick(w, "a0", "A", "", "a b", "a=", "/", ">", "<", "'", "&amp;", "\xff", w.pageBytes())
		}
		l = append(l, Attr(name, w.pageBytes()))
	}
	return l
}

func (w *Wild) pageBytes() string {
	return w.Bytes("abST<>/!-=&;\"' \n\xff", 12)
}
