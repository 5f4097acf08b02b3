package nest_test

import (
	"math"
	"strings"
	"testing"

	"winnowing/api"
	"winnowing/nest"
	"winnowing/probe"
	"winnowing/toks"
)

// P2.1, the bounds of deep.
func TestDeepArgument(t *testing.T) {
	tooDeep := toks.All(strings.Repeat("(", 70))
	for _, deep := range []int{math.MinInt, -61, -1, 0, 61, 62, math.MaxInt} {
		for _, l := range [][]api.Token{nil, {}, {ident("a")}, toks.All("a(b)"), tooDeep} {
			if v, err := nest.Parse(l, deep); err != api.ErrArg || len(v) != 0 {
				t.Errorf("Parse of %d tokens, %d: %d values, error %d", len(l), deep, len(v), err)
			}
		}
	}
	for deep := 1; deep <= 60; deep++ {
		if v, err := nest.Parse(toks.All("a(b)"), deep); err != api.OK || len(v) != 1 {
			t.Errorf("deep %d: %v, error %d", deep, v, err)
		}
		if v, err := nest.Parse(tooDeep, deep); err != api.ErrDeep || len(v) != 0 {
			t.Errorf("deep %d: %d values, error %d", deep, len(v), err)
		}
	}
}

// P2.1, the values of texts.
func TestParse(t *testing.T) {
	for _, c := range []struct {
		s    string
		want []api.Val
	}{
		{"", nil},
		{"a", list(name("a"))},
		{"a 'x' #b", list(name("a"), white, tok(api.Token{Kind: api.TokStr, Text: "x", N: 39}), white, tok(api.Token{Kind: api.TokHash, Text: "b"}))},

		{"()", list(round())},
		{"[]", list(square())},
		{"{}", list(curly())},
		{"f()", list(fn("f"))},
		{"a (b)[c]{d}f(e)", list(name("a"), white, round(name("b")), square(name("c")), curly(name("d")), fn("f", name("e")))},
		{"( a )", list(round(white, name("a"), white))},
		{"(a)b", list(round(name("a")), name("b"))},
		{"(())", list(round(round()))},
		{"([{f()}])", list(round(square(curly(fn("f")))))},
		{"f(g(a)b)c", list(fn("f", fn("g", name("a")), name("b")), name("c"))},
		{"f((a))", list(fn("f", round(name("a"))))},
		{"()()", list(round(), round())},

		{"(", list(round())},
		{"[a", list(square(name("a")))},
		{"{a{b", list(curly(name("a"), curly(name("b"))))},
		{"f(a", list(fn("f", name("a")))},
		{"((a)", list(round(round(name("a"))))},

		{")", list(sign(")"))},
		{"]", list(sign("]"))},
		{"}", list(sign("}"))},
		{"a)b", list(name("a"), sign(")"), name("b"))},
		{"())", list(round(), sign(")"))},
		{"f())}]", list(fn("f"), sign(")"), sign("}"), sign("]"))},

		{"a(b]", list(fn("a", name("b"), sign("]")))},
		{"(])", list(round(sign("]")))},
		{"(}])", list(round(sign("}"), sign("]")))},
		{"[)]", list(square(sign(")")))},
		{"{)]}", list(curly(sign(")"), sign("]")))},
		{"f(}])a", list(fn("f", sign("}"), sign("]")), name("a"))},
		{"([)]", list(round(square(sign(")"))))},
		{"([)])a", list(round(square(sign(")"))), name("a"))},
		{"{(})a", list(curly(round(sign("}")), name("a")))},
		{"f([)", list(fn("f", square(sign(")"))))},

		{"'('", list(tok(api.Token{Kind: api.TokStr, Text: "(", N: 39}))},
		{"/*(*/)", list(sign(")"))},
		{"f (", list(name("f"), white, round())},
		{"@a(b)", list(tok(api.Token{Kind: api.TokAt, Text: "a"}), round(name("b")))},
	} {
		got, err := nest.Parse(toks.All(c.s), api.MaxDeep)
		if err != api.OK || tell(got) != tell(c.want) {
			t.Errorf("Parse(%q) = %s, error %d, want %s", c.s, tell(got), err, tell(c.want))
		}
	}
}

// P2.1: which tokens open and close, of those that no text has.
func TestOpeningAndClosingTokens(t *testing.T) {
	for _, x := range probe.WildTokens() {
		plain := x.Kind == api.TokDelim && x.N == 0
		want := tok(x)
		switch {
		case x.Kind == api.TokFunc:
			want = api.Val{Kind: api.ValFunc, Tok: x, L: list(name("a"))}
		case plain && x.Text == "(":
			want = round(name("a"))
		case plain && x.Text == "[":
			want = square(name("a"))
		case plain && x.Text == "{":
			want = curly(name("a"))
		}
		wantAll := list(want)
		if want.Kind == api.ValTok {
			wantAll = list(want, name("a"))
		}
		got, err := nest.Parse([]api.Token{x, ident("a")}, 1)
		if err != api.OK || tell(got) != tell(wantAll) {
			t.Errorf("behind %#v: %s, error %d", x, tell(got), err)
		}

		if want.Kind != api.ValTok {
			continue
		}
		for _, open := range []api.Val{round(), square(), curly(), fn("f")} {
			first := nest.Flat(list(open))[0]
			got, err := nest.Parse([]api.Token{first, x, ident("a")}, 1)
			closed := plain && x.Text == map[int]string{2: ")", 3: "]", 4: "}", 5: ")"}[open.Kind]
			wantAll := list(open, name("a"))
			if !closed {
				open.L = list(tok(x), name("a"))
				wantAll = list(open)
			}
			if err != api.OK || tell(got) != tell(wantAll) {
				t.Errorf("in a block of kind %d, %#v: %s, error %d", open.Kind, x, tell(got), err)
			}
		}
	}
}

// P2.1, ErrDeep: a block inside deep or more others, and only that.
func TestTooDeep(t *testing.T) {
	for depth := range 64 {
		for _, s := range []string{
			strings.Repeat("(", depth) + strings.Repeat(")", depth),
			strings.Repeat("[", depth),
			strings.Repeat("{a ", depth) + "b" + strings.Repeat("}", depth) + "{}",
			"()" + strings.Repeat("f(", depth) + ")",
			strings.Repeat("()[", depth),
			strings.Repeat("([{f(", 16)[:depth] + strings.Repeat("()", min(depth, 1)),
		} {
			l := toks.All(s)
			real := referenceDepth(l)
			for _, deep := range []int{1, 2, 3, 30, 59, 60} {
				v, err := nest.Parse(l, deep)
				switch {
				case real > deep && (err != api.ErrDeep || len(v) != 0):
					t.Errorf("%q, deep %d: %d values, error %d", s, deep, len(v), err)
				case real <= deep && (err != api.OK || nest.Depth(v) != real):
					t.Errorf("%q, deep %d: depth %d, error %d, want %d", s, deep, nest.Depth(v), err, real)
				}
			}
		}
	}
	for _, c := range []struct {
		s    string
		deep int
		want api.Errno
	}{
		{"()", 1, api.OK},
		{"()()[]{}f()", 1, api.OK},
		{"(())", 1, api.ErrDeep},
		{"(())", 2, api.OK},
		{"f(", 1, api.OK},
		{"f(g(", 1, api.ErrDeep},
		{"a b (c[d", 1, api.ErrDeep},
		{"([)(]", 1, api.ErrDeep},
		{"([)(]", 2, api.ErrDeep},
		{"([)(]", 3, api.OK},
		{")))))", 1, api.OK},
		{"()a[b{}]", 1, api.ErrDeep},
	} {
		if _, err := nest.Parse(toks.All(c.s), c.deep); err != c.want {
			t.Errorf("Parse(%q, %d): error %d, want %d", c.s, c.deep, err, c.want)
		}
	}
}

// frame is an open block, in the second reading of the promise, which keeps them on a stack.
type frame struct {
	val  api.Val
	shut string
}

func reference(l []api.Token) ([]api.Val, int) {
	stack := []frame{{}}
	deepest := 0
	top := func() *frame { return &stack[len(stack)-1] }
	pop := func() {
		v := top().val
		stack = stack[:len(stack)-1]
		top().val.L = append(top().val.L, v)
	}
	for _, t := range l {
		bracket := t.Kind == api.TokDelim && t.N == 0 && len(t.Text) == 1
		if i := strings.Index("([{", t.Text); bracket && i >= 0 {
			stack = append(stack, frame{api.Val{Kind: api.ValRound + i}, ")]}"[i : i+1]})
		} else if t.Kind == api.TokFunc {
			stack = append(stack, frame{api.Val{Kind: api.ValFunc, Tok: t}, ")"})
		} else if bracket && t.Text == top().shut {
			pop()
		} else {
			top().val.L = append(top().val.L, tok(t))
		}
		deepest = max(deepest, len(stack)-1)
	}
	for len(stack) > 1 {
		pop()
	}
	return stack[0].val.L, deepest
}

func referenceDepth(l []api.Token) int {
	_, depth := reference(l)
	return depth
}

func checkAgainstReference(t *testing.T, l []api.Token, deep int) {
	t.Helper()
	got, err := nest.Parse(l, deep)
	want, depth := reference(l)
	if depth > deep {
		if err != api.ErrDeep || len(got) != 0 {
			t.Fatalf("%q, deep %d: %d values, error %d", toks.Text(l), deep, len(got), err)
		}
		return
	}
	if err != api.OK || tell(got) != tell(want) {
		t.Fatalf("%q, deep %d: %s, error %d, want %s", toks.Text(l), deep, tell(got), err, tell(want))
	}
}

// P2.1 against the second reading: all short lists of the tokens that matter, and long ones.
func TestAgainstReference(t *testing.T) {
	alphabet := toks.All("a(f([{)]}")
	alphabet = append(alphabet, api.Token{Kind: api.TokDelim, Text: ")", N: 1})
	probe.Each(alphabet, 4, func(l []api.Token) {
		for deep := 1; deep <= 4; deep++ {
			checkAgainstReference(t, l, deep)
		}
	})
	probe.Each(toks.All("([)]}"), 6, func(l []api.Token) { checkAgainstReference(t, l, api.MaxDeep) })
	var c probe.Chance = 5
	all := append(probe.WildTokens(), alphabet...)
	for i := range 2000 {
		l := make([]api.Token, c.Below(150))
		for j := range l {
			l[j] = alphabet[c.Below(len(alphabet))]
			if i%2 == 0 && c.Below(2) == 0 {
				l[j] = all[c.Below(len(all))]
			}
		}
		checkAgainstReference(t, l, 1+c.Below(api.MaxDeep))
	}
}
