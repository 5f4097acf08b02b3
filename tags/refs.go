package tags

import "strings"

// references: the bytes that have another text than themselves, and that text.
var references = [...]struct {
	sign byte
	name string
}{
	{'&', "&amp;"},
	{'<', "&lt;"},
	{'>', "&gt;"},
	{'"', "&quot;"},
}

// reference is the text of a byte.
func reference(b byte) string {
	for _, r := range references {
		if r.sign == b {
			return r.name
		}
	}
	return string([]byte{b})
}

// decoded replaces the references of s, from left to right: what they denote begins no further one.
func decoded(s string) string {
	var b strings.Builder
	for i := 0; i < len(s); {
		sign, length := denoted(s[i:])
		b.WriteByte(sign)
		i += length
	}
	return b.String()
}

// denoted is the byte that s denotes first, and how many bytes denote it. s has at least one.
func denoted(s string) (byte, int) {
	for _, r := range references {
		if strings.HasPrefix(s, r.name) {
			return r.sign, len(r.name)
		}
	}
	return s[0], 1
}
