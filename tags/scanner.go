package tags

import (
	"slices"

	"winnowing/api"
	"winnowing/ascii"
)

// scanner reads its text from pos on, and keeps the tags that it has read.
type scanner struct {
	text
	pos  int
	tags []api.Tag
}

func scan(page string) []api.Tag {
	s := scanner{text: text(page)}
	for s.pos < len(s.text) {
		s.step()
	}
	return s.tags
}

// step consumes at least one byte.
func (s *scanner) step() {
	const comment, declaration = "<!--", "<!"
	at := s.pos
	switch {
	case s.has(at, comment):
		s.pos = s.behind(at+len(comment), "-->")
	case s.has(at, declaration):
		s.pos = s.behind(at+len(declaration), ">")
	case s.shutBegins(at):
		s.shutTag()
	case s.openBegins(at):
		s.openTag()
	default:
		s.said(decoded(s.take(s.until(at+1, s.markBegins))))
	}
}

func (s *scanner) add(t api.Tag) {
	s.tags = append(s.tags, t)
}

func (s *scanner) said(words string) {
	s.add(api.Tag{Kind: api.TagText, Text: words})
}

// take consumes the bytes up to end.
func (s *scanner) take(end int) string {
	taken := string(s.text[s.pos:end])
	s.pos = end
	return taken
}

// name consumes a name up to end.
func (s *scanner) name(end int) string {
	return ascii.Lower(s.take(end))
}

func (s *scanner) shutTag() {
	s.pos += len("</")
	s.add(api.Tag{Kind: api.TagShut, Name: s.name(s.tagNameEnd(s.pos))})
	s.pos = s.behind(s.pos, ">")
}

func (s *scanner) openTag() {
	s.pos += len("<")
	t := api.Tag{Kind: api.TagOpen, Name: s.name(s.tagNameEnd(s.pos))}
	for !s.tagEnds(s.pos) {
		if !s.isAttrNameByte(s.pos) {
			s.pos++
			continue
		}
		if a := s.attribute(); mayRecord(t.Attrs, a.Name) {
			t.Attrs = append(t.Attrs, a)
		}
	}
	s.pos = s.behind(s.pos, ">")
	s.add(t)
	if t.Name == style {
		s.styleText()
	}
}

func mayRecord(l []api.Attr, name string) bool {
	return len(l) < api.MaxAttrs && !slices.ContainsFunc(l, func(a api.Attr) bool { return a.Name == name })
}

// attribute looks for a sign = behind blanks, which otherwise belong to no attribute.
func (s *scanner) attribute() api.Attr {
	a := api.Attr{Name: s.name(s.attrNameEnd(s.pos))}
	if sign := s.blanksEnd(s.pos); s.byteAt(sign) == '=' {
		s.pos = s.blanksEnd(sign + 1)
		a.Value = decoded(s.value())
	}
	return a
}

func (s *scanner) value() string {
	if !s.isQuote(s.pos) {
		return s.take(s.until(s.pos, s.bareEnds))
	}
	quote := s.take(s.pos + 1)
	inner := s.take(s.find(s.pos, quote))
	s.pos = s.behind(s.pos, quote)
	return inner
}

// styleText reads what stands in a style element: signs in it denote themselves.
func (s *scanner) styleText() {
	if inner := s.take(s.until(s.pos, s.styleShuts)); inner != "" {
		s.said(inner)
	}
}
