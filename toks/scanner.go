package toks

import "winnowing/api"

// scanner reads its text, token by token, from pos on.
type scanner struct {
	text
	pos int
}

func newScanner(s string) *scanner {
	return &scanner{text: text(s)}
}

// next returns the token at pos; false if the text has no further one.
func (s *scanner) next() (api.Token, bool) {
	s.skipComments()
	at := s.pos
	switch {
	case at >= len(s.text):
		return api.Token{}, false
	case s.isBlank(at):
		return s.white(), true
	case s.secondQuote(at) != none:
		return s.quoted(), true
	case s.byteAt(at) == '#' && s.isNameByte(at+1):
		return s.named(api.TokHash), true
	case s.byteAt(at) == '@' && s.nameBegins(at+1):
		return s.named(api.TokAt), true
	case s.numberBegins(at):
		return s.number(), true
	case s.nameBegins(at):
		return s.word(), true
	}
	return api.Token{Kind: api.TokDelim, Text: s.take(at + 1)}, true
}

// take consumes the bytes up to end.
func (s *scanner) take(end int) string {
	taken := string(s.text[s.pos:end])
	s.pos = end
	return taken
}

func (s *scanner) skipComments() {
	for s.commentBegins(s.pos) {
		s.pos = s.commentEnd(s.pos)
	}
}

func (s *scanner) white() api.Token {
	s.pos = s.blanksEnd(s.pos)
	return api.Token{Kind: api.TokWhite, Text: "\n"}
}

func (s *scanner) quoted() api.Token {
	quote, end := s.byteAt(s.pos), s.secondQuote(s.pos)
	s.pos++
	inner := s.take(end)
	s.pos++
	return api.Token{Kind: api.TokStr, Text: inner, N: quote}
}

// named reads a token of one sign and the name bytes behind it.
func (s *scanner) named(kind int) api.Token {
	s.pos++
	return api.Token{Kind: kind, Text: s.take(s.nameEnd(s.pos))}
}

func (s *scanner) number() api.Token {
	negative := s.byteAt(s.pos) == '-'
	if negative {
		s.pos++
	}
	n := s.digits()
	if negative {
		n = -n
	}
	return api.Token{Kind: api.TokNum, N: n, Text: s.unit()}
}

// digits caps the number at each digit, so that no run of digits is too long for it.
func (s *scanner) digits() int {
	n := 0
	for s.isDigit(s.pos) {
		n = min(n*10+s.byteAt(s.pos)-'0', api.MaxNum)
		s.pos++
	}
	return n
}

func (s *scanner) unit() string {
	switch {
	case s.byteAt(s.pos) == '%':
		return s.take(s.pos + 1)
	case s.nameBegins(s.pos):
		return s.take(s.nameEnd(s.pos))
	}
	return ""
}

func (s *scanner) word() api.Token {
	name := s.take(s.nameEnd(s.pos))
	if s.byteAt(s.pos) == '(' {
		s.pos++
		return api.Token{Kind: api.TokFunc, Text: name}
	}
	return api.Token{Kind: api.TokIdent, Text: name}
}
