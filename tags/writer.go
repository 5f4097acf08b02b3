package tags

import (
	"strings"

	"winnowing/api"
)

// emptyComment keeps two texts apart, which would be read as one.
const emptyComment = "<!---->"

// writer writes tags, word by word.
type writer struct {
	strings.Builder
}

func (w *writer) words(l ...string) {
	for _, word := range l {
		w.WriteString(word)
	}
}

func (w *writer) all(l []api.Tag) {
	before := api.Tag{}
	for _, t := range l {
		w.following(before, t)
		before = t
	}
}

// following writes t, whose text depends on the tag directly ahead of it.
func (w *writer) following(before, t api.Tag) {
	isText := t.Kind == api.TagText
	switch {
	case isText && opensStyle(before):
		w.words(t.Text)
	case isText && before.Kind == api.TagText:
		w.words(emptyComment)
		w.tag(t)
	default:
		w.tag(t)
	}
}

func (w *writer) tag(t api.Tag) {
	switch t.Kind {
	case api.TagOpen:
		w.words("<", t.Name)
		for _, a := range t.Attrs {
			w.words(" ", a.Name, `="`)
			w.encoded(a.Value)
			w.words(`"`)
		}
		w.words(">")
	case api.TagShut:
		w.words("</", t.Name, ">")
	case api.TagText:
		w.encoded(t.Text)
	}
}

func (w *writer) encoded(s string) {
	for i := range len(s) {
		w.words(reference(s[i]))
	}
}
