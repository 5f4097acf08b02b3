package probe

import (
	"math"

	"winnowing/api"
)

// Chance is a source of numbers that are the same in every run.
type Chance uint64

// Below returns a number from 0 to n-1, for an n of at least 1.
func (c *Chance) Below(n int) int {
	*c = *c*6364136223846793005 + 1442695040888963407
	return int(*c>>33) % n
}

// Bytes returns fewer than n bytes of an alphabet.
func (c *Chance) Bytes(alphabet string, n int) string {
	b := make([]byte, c.Below(n))
	for i := range b {
		b[i] = alphabet[c.Below(len(alphabet))]
	}
	return string(b)
}

// Each goes through all lists over an alphabet, up to a length. The list is its own: do must not keep it.
func Each[T any](alphabet []T, length int, do func([]T)) {
	l := make([]T, 0, length)
	var grow func()
	grow = func() {
		do(l)
		if len(l) == length {
			return
		}
		for _, x := range alphabet {
			l = append(l, x)
			grow()
			l = l[:len(l)-1]
		}
	}
	grow()
}

// WildTokens: every kind and none, with numbers and texts in and out of bounds.
func WildTokens() []api.Token {
	var l []api.Token
	for _, kind := range []int{math.MinInt, -1, 0, 1, 2, 3, 4, 5, 6, 7, 8, 9, math.MaxInt} {
		for _, n := range []int{math.MinInt, -1, 0, 1, 39, math.MaxInt} {
			for _, s := range []string{"", "a", "(", ")", "[", "]", "{", "}", "()", ",", "'", "\n", "\xff"} {
				l = append(l, api.Token{Kind: kind, Text: s, N: n})
			}
		}
	}
	return l
}

// Wild makes values that nobody chose, out of its tokens.
type Wild struct {
	Chance
	tokens []api.Token
}

func NewWild(seed Chance) *Wild { return &Wild{seed, WildTokens()} }

// Vals: every kind and none, with any token, and with any values in it, to a depth.
func (w *Wild) Vals(depth int) []api.Val {
	kinds := []int{math.MinInt, -1, 0, 1, 1, 2, 3, 4, 5, 6, math.MaxInt}
	l := make([]api.Val, w.Below(5))
	for i := range l {
		l[i].Kind = kinds[w.Below(len(kinds))]
		if w.Below(2) == 0 {
			l[i].Tok = w.tokens[w.Below(len(w.tokens))]
		}
		if depth > 0 && w.Below(3) > 0 {
			l[i].L = w.Vals(depth - 1)
		}
	}
	return l
}
