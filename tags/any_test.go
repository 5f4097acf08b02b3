package tags_test

import (
	"slices"
	"strconv"
	"strings"
	"testing"

	"winnowing/api"
	"winnowing/probe"
	"winnowing/tags"
)

// R1 and P1: no call panics, whatever it is given. R3: a call tells the same again. R4: the arguments stay.
func TestAnyArguments(t *testing.T) {
	w := probe.NewWild(9)
	for range 10000 {
		l, s := w.Tags(), w.Bytes("aZ<>/!-=&;'\" \n\x00\xff", 60)
		told := tellTags(l)
		tellCalls := func() string {
			var b strings.Builder
			b.WriteString(tellTags(tags.All(s)) + strconv.Quote(tags.Text(l)) + strconv.FormatBool(tags.Void(s)))
			for _, x := range l {
				b.WriteString(strconv.Quote(tags.One(x)) + strconv.FormatBool(tags.May(x)) + strconv.FormatBool(tags.Void(x.Name)))
			}
			return b.String()
		}
		first := tellCalls()
		if again := tellCalls(); again != first {
			t.Fatalf("%s, then %s", first, again)
		}
		if tellTags(l) != told {
			t.Fatalf("%s is otherwise afterwards", told)
		}
	}
}

const anyPage = "<!doctype html><p a=b c='&lt;'>x<!-- -->y<style m=n>a{}</style><br d e=f></p>z"

// R4: the arguments stay as they were, also behind their ends.
func TestBehindArguments(t *testing.T) {
	l := append(tags.All(anyPage), said("spare"))
	for i := range l {
		l[i].Attrs = append(l[i].Attrs, attr("spare", ""))
	}
	told := tellTags(l)
	for end := range l {
		tags.Text(l[:end])
		x := l[end]
		x.Attrs = x.Attrs[:len(x.Attrs)-1]
		tags.One(x)
		tags.May(x)
	}
	if tellTags(l) != told {
		t.Error("an argument changed")
	}
}

// R4: no list of a result shares memory with another one. R3: no call keeps what it told.
func TestResultsAreNew(t *testing.T) {
	l := tags.All(anyPage)
	if len(l) != 9 {
		t.Fatalf("%d tags", len(l))
	}
	told := tellTags(l)
	probe.WriteBehindTags(l)
	if tellTags(l) != told {
		t.Error("behind a list stands another one")
	}
	for i := range l {
		l = tags.All(anyPage)
		probe.OverwriteTags(l[:i])
		if !strings.HasSuffix(told, tellTags(l[i:])) {
			t.Error("two tags share memory")
		}
	}
	probe.OverwriteTags(l)
	if tellTags(tags.All(anyPage)) != told {
		t.Error("two results share memory")
	}
}

// R5: empty and nil lists are alike.
func TestEmptyIsNil(t *testing.T) {
	if tags.Text(nil) != "" || tags.Text([]api.Tag{}) != "" || len(tags.All("")) != 0 {
		t.Error("no tags")
	}
	for _, l := range [][]api.Attr{nil, {}} {
		for _, x := range tagsOf(open("p", l...), open("style", l...), shut("p"), said("a")) {
			x.Attrs = l
			if !tags.May(x) || tags.One(x) != tags.Text(tagsOf(x)) {
				t.Errorf("%s without attributes", tellTags(tagsOf(x)))
			}
		}
	}
}

// R1: the time that long pages take grows with their length alone, also where they are ill-formed throughout.
func TestLong(t *testing.T) {
	const n = 40000
	for _, s := range []string{
		"a", "<", ">", "</", "<!", "<!-", "<!--", "-->", "<!---->", "<!>", "<p>", "</p>", "<p", "<p ", "<p a", "<p a=", "<p a='", "a=b ", "&", "&amp", "&amp;", "&amp;<", "<a", " ", "\"", "'", "\xff", "\x00",
		"<style>", "</style>", "</style", "<style></style>", "<style></styl", "<style>a</style>b", "</sty", "<style ", "a<!---->",
	} {
		for _, ahead := range []string{"", "<p ", "<p a='", "<p a=", "<p a ", "</p ", "<style>", "<style>a</style>", "<!--", "<!", "x"} {
			l := tags.All(ahead + strings.Repeat(s, n))
			if got := tags.All(tags.Text(l)); !slices.EqualFunc(got, l, sameTag) {
				t.Errorf("%q, and %d times %q, is not read back", ahead, n, s)
			}
			if len(l) > 0 && !tags.May(l[len(l)-1]) {
				t.Errorf("%q, and %d times %q: the last tag is not valid", ahead, n, s)
			}
		}
	}
}

func sameTag(a, b api.Tag) bool {
	return a.Kind == b.Kind && a.Name == b.Name && a.Text == b.Text && slices.Equal(a.Attrs, b.Attrs)
}

// R1: the same of long fields, and of many attributes.
func TestLongFields(t *testing.T) {
	const n = 40000
	for _, s := range []string{"a", "A", "<", "&", "\"", "'", "=", ">", " ", "\xff", "</style>", "<!--"} {
		long := strings.Repeat(s, n)
		for kind := range 5 {
			x := api.Tag{Kind: kind, Name: long, Text: long, Attrs: slices.Repeat([]api.Attr{attr(long, long)}, 3)}
			if tags.May(x) || tags.Void(long) || (kind == 0 || kind == 4) != (tags.One(x) == "") || len(tags.Text(tagsOf(x, x, x))) < 3*len(tags.One(x)) {
				t.Errorf("%q, %d times, in kind %d", s, n, kind)
			}
		}
		if !tags.May(said(long)) || !tags.May(open("p", attr("a", long))) {
			t.Errorf("%q, %d times, is a valid text", s, n)
		}
	}
	if tags.May(open("p", make([]api.Attr, n)...)) || tags.Text(make([]api.Tag, n)) != "" {
		t.Error("zero attributes and tags")
	}
}
