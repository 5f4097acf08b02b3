package sels

import (
	"strings"

	"winnowing/api"
)

const mostDigits = 4

func nth(l []api.Val) (int, int) {
	var a, b int
	whole(l, func(r *reader) { a, b = r.nth() })
	demand(inNthLimit(a) && inNthLimit(b))
	return a, b
}

func inNthLimit(n int) bool {
	return -api.MaxNth <= n && n <= api.MaxNth
}

func (r *reader) nth() (int, int) {
	t, ok := r.token(api.TokNum)
	if !ok {
		return nthWord(r.name())
	}
	switch t.Text {
	case "":
		return 0, t.N
	case "n":
		return t.N, r.plus()
	}
	digits, ok := strings.CutPrefix(t.Text, "n-")
	demand(ok)
	return t.N, -number(digits)
}

func nthWord(name string) (int, int) {
	switch name {
	case "odd":
		return 2, 1
	case "even":
		return 2, 0
	}
	demand(name == "n")
	return 1, 0
}

// plus reads the number that is added, which is 0 if there is no plus.
func (r *reader) plus() int {
	if !r.delims("+") {
		return 0
	}
	t, ok := r.token(api.TokNum)
	demand(ok && t.Text == "" && t.N >= 0)
	return t.N
}

// number returns what digits denote. It takes no sign, which strconv would.
func number(digits string) int {
	demand(1 <= len(digits) && len(digits) <= mostDigits)
	n := 0
	for i := range len(digits) {
		demand('0' <= digits[i] && digits[i] <= '9')
		n = n*10 + int(digits[i]-'0')
	}
	return n
}
