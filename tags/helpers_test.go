package tags_test

import (
	"testing"

	"winnowing/api"
	"winnowing/probe"
	"winnowing/tags"
)

// Short names for what the tables of the tests are made of.
var (
	open, shut, said, attr = probe.Open, probe.Shut, probe.Said, probe.Attr
	tagsOf, tellTags       = probe.Tags, probe.TellTags
)

// blanks are all of them; notBlanks are bytes that one could take for such.
const (
	blanks    = " \t\n\f\r"
	notBlanks = "\v\x00\x1c\x1f\x85\xa0"
)

// lexes are texts, and the tags that each must have.
type lexes []struct {
	s    string
	want []api.Tag
}

func (l lexes) check(t *testing.T) {
	t.Helper()
	for _, c := range l {
		if got := tags.All(c.s); tellTags(got) != tellTags(c.want) {
			t.Errorf("All(%q) = %s, want %s", c.s, tellTags(got), tellTags(c.want))
		}
	}
}

// writes are tags, and the text that they must have.
type writes []struct {
	l    []api.Tag
	want string
}

func (l writes) check(t *testing.T) {
	t.Helper()
	for _, c := range l {
		if got := tags.Text(c.l); got != c.want {
			t.Errorf("Text of %s is %q, want %q", tellTags(c.l), got, c.want)
		}
	}
}

// eachByte goes through all texts of one byte.
func eachByte(do func(c string)) {
	for i := range 256 {
		do(string([]byte{byte(i)}))
	}
}

// manyAttrs: a0, a1, and so on, each with its number as its value.
func manyAttrs(n int) []api.Attr {
	l := make([]api.Attr, n)
	for i := range l {
		digits := string([]byte{byte('0' + i/10), byte('0' + i%10)})
		l[i] = attr("a"+digits, digits)
	}
	return l
}

func asciiLower(s string) string {
	b := []byte(s)
	for i, c := range b {
		if 'A' <= c && c <= 'Z' {
			b[i] += 32
		}
	}
	return string(b)
}
