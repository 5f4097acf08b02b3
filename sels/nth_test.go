package sels_test

import (
	"math"
	"strconv"
	"testing"

	"winnowing/api"
	"winnowing/sels"
	"winnowing/split"
)

// nthOf is Nth of a text that begins and ends with blanks, if it does.
func nthOf(t *testing.T, s string) (int, int, api.Errno) {
	t.Helper()
	l, err := split.Read("(" + s + ")")
	if err != api.OK || len(l) != 1 {
		t.Fatalf("%q: error %d", s, err)
	}
	return sels.Nth(l[0].L)
}

// P4.1, every form and the edges of each.
func TestNth(t *testing.T) {
	for _, c := range []struct {
		s    string
		a, b int
	}{
		{"odd", 2, 1}, {"even", 2, 0}, {"n", 1, 0},
		{" odd", 2, 1}, {"even ", 2, 0}, {" /**/ n /**/ ", 1, 0}, {" 2n+1 ", 2, 1}, {"/**/5/**/", 0, 5},
		{"0", 0, 0}, {"5", 0, 5}, {"-5", 0, -5}, {"-0", 0, 0}, {"007", 0, 7}, {"9999", 0, 9999}, {"-9999", 0, -9999},
		{"0n", 0, 0}, {"2n", 2, 0}, {"-3n", -3, 0}, {"9999n", 9999, 0}, {"-9999n", -9999, 0},
		{"2n+1", 2, 1}, {"-2n+0", -2, 0}, {"0n+5", 0, 5}, {"2n+007", 2, 7}, {"2n+-0", 2, 0}, {"9999n+9999", 9999, 9999},
		{"2n/**/+/**/1", 2, 1},
		{"2n-1", 2, -1}, {"2n-0", 2, 0}, {"-2n-10", -2, -10}, {"2n-0001", 2, -1}, {"2n-123", 2, -123}, {"-9999n-9999", -9999, -9999},
	} {
		if a, b, err := nthOf(t, c.s); a != c.a || b != c.b || err != api.OK {
			t.Errorf("Nth of %q: %d, %d, error %d, want %d, %d", c.s, a, b, err, c.a, c.b)
		}
	}
}

// P4.1, everything else.
func TestNoNth(t *testing.T) {
	for _, s := range []string{
		"", " ", "ODD", "Even", "N", "odd odd", "odd,", "x", "-n", "n-1", "n+1", "n + 1", "--", "nn",
		"5%", "5px", "5N", "2 n", "5 5", "+5", "+n", "+2n", "5+1", "5-1", "2n5",
		"2n +1", "2n+ 1", "2n + 1", "2n 1", "2n+", "2n+ ", "2n++1", "2n+-1", "2n+1n", "2n+1px", "2n+1%", "2n+n", "2n+odd", "2n+(1)", "2n+1 2", "2n+1+1",
		"2n - 1", "2n -1", "2n- 1", "2n-", "2n--1", "2n-1n", "2n-n", "2n-x", "2n-1x", "2n-12345", "2n-00001", "2n-1-1", "2n-1+1", "2N-1", "2m-1", "2-1", "2n_1", "2nn-1", "2n-1 1",
		"10000", "-10000", "10000n", "-10000n", "10000n+1", "1n+10000", "10000n-1", "-10000n-1", "999999999999999999999", "1n+99999999999999999999",
		"(2n)", "f(2n)", "'odd'", "#odd", "@odd", ".", "1.5", "2n+1.5", "{}", "[odd]",
	} {
		if a, b, err := nthOf(t, s); a != 0 || b != 0 || err != api.ErrSel {
			t.Errorf("Nth of %q: %d, %d, error %d", s, a, b, err)
		}
	}
}

// P4.1, on values that no text has.
func TestNthOfValues(t *testing.T) {
	plus := sign("+")
	oddPlus := tok(api.Token{Kind: api.TokDelim, Text: "+", N: 1})
	for _, c := range []struct {
		l    []api.Val
		a, b int
		err  api.Errno
	}{
		{nil, 0, 0, api.ErrSel},
		{list(), 0, 0, api.ErrSel},
		{list(api.Val{}), 0, 0, api.ErrSel},
		{list(white, white, name("odd"), white, white), 2, 1, api.OK},
		{list(tok(api.Token{Kind: api.TokWhite, Text: "x", N: 3}), num(3, "")), 0, 3, api.OK},
		{list(tok(api.Token{Kind: api.TokIdent, Text: "odd", N: 3})), 2, 1, api.OK},
		{list(api.Val{Kind: api.ValTok, Tok: num(3, "n").Tok, L: list(plus)}), 3, 0, api.OK},
		{list(api.Val{Kind: api.ValRound, Tok: num(3, "n").Tok}), 0, 0, api.ErrSel},
		{list(api.Val{Tok: num(3, "n").Tok}), 0, 0, api.ErrSel},
		{list(fn("odd")), 0, 0, api.ErrSel},
		{list(num(2, "n"), plus, num(1, "")), 2, 1, api.OK},
		{list(num(2, "n"), oddPlus, num(1, "")), 0, 0, api.ErrSel},
		{list(num(2, "n"), plus, num(-1, "")), 0, 0, api.ErrSel},
		{list(num(2, "n"), name("+"), num(1, "")), 0, 0, api.ErrSel},
		{list(num(2, "n"), plus, white, num(1, "")), 0, 0, api.ErrSel},
		{list(num(2, ""), plus, num(1, "")), 0, 0, api.ErrSel},
		{list(num(2, "n-1"), plus, num(1, "")), 0, 0, api.ErrSel},
		{list(num(2, "n"), num(-1, "")), 0, 0, api.ErrSel},
		{list(num(2, "n-+1")), 0, 0, api.ErrSel},
		{list(num(2, "12")), 0, 0, api.ErrSel},
		{list(num(2, "-12")), 0, 0, api.ErrSel},
		{list(num(2, "n-\u0661")), 0, 0, api.ErrSel},
		{list(num(2, "n-/")), 0, 0, api.ErrSel},
		{list(num(2, "n-:")), 0, 0, api.ErrSel},
		{list(num(2, "n- 1")), 0, 0, api.ErrSel},
		{list(num(math.MaxInt, "")), 0, 0, api.ErrSel},
		{list(num(math.MinInt, "")), 0, 0, api.ErrSel},
		{list(num(math.MinInt, "n")), 0, 0, api.ErrSel},
		{list(num(1, "n"), plus, num(math.MaxInt, "")), 0, 0, api.ErrSel},
		{list(num(math.MinInt, "n-1")), 0, 0, api.ErrSel},
	} {
		if a, b, err := sels.Nth(c.l); a != c.a || b != c.b || err != c.err {
			t.Errorf("Nth of %s: %d, %d, error %d", tell(c.l), a, b, err)
		}
	}
}

// P4.1, all numbers around the limits.
func TestNthLimits(t *testing.T) {
	edges := []int{0, 1, -1, 9, 10, 99, 100, 999, 1000, 9998, -9998, 9999, -9999, 10000, -10000, 10001, 99999, -99999, api.MaxNum, -api.MaxNum}
	for _, a := range edges {
		for _, b := range edges {
			s := strconv.Itoa(a) + "n"
			if b >= 0 {
				s += "+"
			}
			s += strconv.Itoa(b)
			wantA, wantB, want := a, b, api.OK
			if max(a, b, -a, -b) > api.MaxNth {
				wantA, wantB, want = 0, 0, api.ErrSel
			}
			if gotA, gotB, err := nthOf(t, s); gotA != wantA || gotB != wantB || err != want {
				t.Errorf("Nth of %q: %d, %d, error %d", s, gotA, gotB, err)
			}
		}
	}
}
