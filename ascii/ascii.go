// Package ascii changes the case of letters, for the layers that take names in upper or lower case alike.
package ascii

// Lower changes the letters A to Z alone: a name is bytes, and need not be a text of any language.
func Lower(s string) string {
	b := []byte(s)
	for i, c := range b {
		if 'A' <= c && c <= 'Z' {
			b[i] = c - 'A' + 'a'
		}
	}
	return string(b)
}
