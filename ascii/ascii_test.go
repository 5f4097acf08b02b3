package ascii_test

import (
	"testing"

	"winnowing/ascii"
)

func TestLower(t *testing.T) {
	for s, want := range map[string]string{
		"":             "",
		"azAZ":         "azaz",
		"a-B_9":        "a-b_9",
		"@[`{":         "@[`{",
		"\xc3\x84\xff": "\xc3\x84\xff",
		"K\u212aE":     "k\u212ae",
	} {
		if got := ascii.Lower(s); got != want {
			t.Errorf("Lower(%q) = %q, want %q", s, got, want)
		}
	}
	for i := range 256 {
		c := string([]byte{byte(i)})
		want := c
		if 'A' <= i && i <= 'Z' {
			want = string([]byte{byte(i + 32)})
		}
		if got := ascii.Lower(c); got != want {
			t.Errorf("Lower(%q) = %q", c, got)
		}
	}
}
