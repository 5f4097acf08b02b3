package toks

// none stands for a byte, or a place, that there is not.
const none = -1

// text is a style sheet. Its methods take any place, so that a look ahead needs no check of its own.
type text string

func (t text) byteAt(i int) int {
	if i < 0 || i >= len(t) {
		return none
	}
	return int(t[i])
}

func (t text) isBlank(i int) bool {
	return t.byteAt(i) == ' ' || t.byteAt(i) == '\t' || t.isLineEnd(i)
}

func (t text) isLineEnd(i int) bool {
	b := t.byteAt(i)
	return b == '\n' || b == '\f' || b == '\r'
}

func (t text) isDigit(i int) bool {
	b := t.byteAt(i)
	return '0' <= b && b <= '9'
}

// isNameStart tells of a byte that may begin a name without looking at the next one.
func (t text) isNameStart(i int) bool {
	b := t.byteAt(i)
	return 'A' <= b && b <= 'Z' || 'a' <= b && b <= 'z' || b == '_' || b >= 128
}

func (t text) isNameByte(i int) bool {
	return t.isNameStart(i) || t.isDigit(i) || t.byteAt(i) == '-'
}

func (t text) isQuote(i int) bool {
	return t.byteAt(i) == '"' || t.byteAt(i) == '\''
}

func (t text) commentBegins(i int) bool {
	return t.byteAt(i) == '/' && t.byteAt(i+1) == '*'
}

func (t text) nameBegins(i int) bool {
	if t.byteAt(i) == '-' {
		return t.isNameStart(i+1) || t.byteAt(i+1) == '-'
	}
	return t.isNameStart(i)
}

func (t text) numberBegins(i int) bool {
	return t.isDigit(i) || t.byteAt(i) == '-' && t.isDigit(i+1)
}

func (t text) blanksEnd(i int) int {
	for t.isBlank(i) {
		i++
	}
	return i
}

func (t text) nameEnd(i int) int {
	for t.isNameByte(i) {
		i++
	}
	return i
}

// commentEnd looks behind the opening pair, because its star does not close the comment.
func (t text) commentEnd(i int) int {
	for i += 2; i < len(t); i++ {
		if t.byteAt(i) == '*' && t.byteAt(i+1) == '/' {
			return i + 2
		}
	}
	return len(t)
}

// secondQuote is the place of the quote that ends the string at i, or none if no string begins there.
func (t text) secondQuote(i int) int {
	if !t.isQuote(i) {
		return none
	}
	for j := i + 1; j < len(t) && !t.isLineEnd(j); j++ {
		if t[j] == t[i] {
			return j
		}
	}
	return none
}
