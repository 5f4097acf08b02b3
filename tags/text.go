package tags

import (
	"strings"

	"winnowing/ascii"
)

// none stands for a byte that there is not.
const none = -1

// text is a page. Its methods that ask of a byte take any place, so that a look ahead needs no check of its own.
type text string

func (t text) byteAt(i int) int {
	if i < 0 || i >= len(t) {
		return none
	}
	return int(t[i])
}

func (t text) isBlank(i int) bool {
	switch t.byteAt(i) {
	case ' ', '\t', '\n', '\f', '\r':
		return true
	}
	return false
}

func (t text) isQuote(i int) bool {
	return t.byteAt(i) == '"' || t.byteAt(i) == '\''
}

func (t text) isLetter(i int) bool {
	b := t.byteAt(i)
	return 'A' <= b && b <= 'Z' || 'a' <= b && b <= 'z'
}

func (t text) isTagNameByte(i int) bool {
	b := t.byteAt(i)
	return t.isLetter(i) || '0' <= b && b <= '9' || b == '-'
}

func (t text) isAttrNameByte(i int) bool {
	switch t.byteAt(i) {
	case none, '=', '>', '/', '"', '\'', '<':
		return false
	}
	return !t.isBlank(i)
}

// tagEnds tells of the end of the text, too: it ends every tag that is open.
func (t text) tagEnds(i int) bool {
	return t.byteAt(i) == none || t.byteAt(i) == '>'
}

// bareEnds tells of the end of a value without quotes.
func (t text) bareEnds(i int) bool {
	return t.isBlank(i) || t.tagEnds(i)
}

// has reports whether the bytes of word stand at i.
func (t text) has(i int, word string) bool {
	return i <= len(t) && strings.HasPrefix(string(t[i:]), word)
}

func (t text) openBegins(i int) bool {
	return t.byteAt(i) == '<' && t.isLetter(i+1)
}

func (t text) shutBegins(i int) bool {
	return t.has(i, "</") && t.isLetter(i+2)
}

// markBegins tells of what is no text of the page.
func (t text) markBegins(i int) bool {
	return t.has(i, "<!") || t.shutBegins(i) || t.openBegins(i)
}

// styleShuts takes no longer name: a tag of such a one leaves the style element open.
func (t text) styleShuts(i int) bool {
	const word = "</" + style
	end := i + len(word)
	if t.byteAt(i) != '<' || end > len(t) || ascii.Lower(string(t[i:end])) != word {
		return false
	}
	return t.isBlank(end) || t.byteAt(end) == '/' || t.tagEnds(end)
}

func (t text) blanksEnd(i int) int {
	for t.isBlank(i) {
		i++
	}
	return i
}

func (t text) tagNameEnd(i int) int {
	for t.isTagNameByte(i) {
		i++
	}
	return i
}

func (t text) attrNameEnd(i int) int {
	for t.isAttrNameByte(i) {
		i++
	}
	return i
}

// until is the place of the first byte from i on of which ends is true, or the end of the text.
func (t text) until(i int, ends func(int) bool) int {
	for i < len(t) && !ends(i) {
		i++
	}
	return i
}

// find is the place of the next word from i on, or the end of the text.
func (t text) find(i int, word string) int {
	if n := strings.Index(string(t[i:]), word); n >= 0 {
		return i + n
	}
	return len(t)
}

// behind is the place behind the next word from i on, or the end of the text.
func (t text) behind(i int, word string) int {
	return min(t.find(i, word)+len(word), len(t))
}
