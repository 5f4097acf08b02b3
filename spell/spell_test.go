package spell_test

import (
	"math"
	"strings"
	"testing"

	"winnowing/api"
	"winnowing/probe"
	"winnowing/sels"
	"winnowing/spell"
)

// P5.1, and the same numbers in an nth-child.
func TestNth(t *testing.T) {
	for _, c := range []struct {
		a, b int
		want string
	}{
		{0, 0, "0"}, {0, 1, "1"}, {0, -1, "-1"}, {0, 10, "10"}, {0, api.MaxNth, "9999"}, {0, -api.MaxNth, "-9999"},
		{1, 0, "1n"}, {-1, 0, "-1n"}, {2, 0, "2n"}, {api.MaxNth, 0, "9999n"}, {-api.MaxNth, 0, "-9999n"},
		{1, 1, "1n+1"}, {-1, 1, "-1n+1"}, {2, 10, "2n+10"}, {api.MaxNth, api.MaxNth, "9999n+9999"}, {-api.MaxNth, api.MaxNth, "-9999n+9999"},
		{1, -1, "1n-1"}, {-1, -1, "-1n-1"}, {2, -10, "2n-10"}, {api.MaxNth, -api.MaxNth, "9999n-9999"}, {-api.MaxNth, -api.MaxNth, "-9999n-9999"},
		{0, math.MaxInt, "9223372036854775807"}, {0, math.MinInt, "-9223372036854775808"},
		{math.MaxInt, math.MaxInt, "9223372036854775807n+9223372036854775807"}, {math.MinInt, math.MinInt, "-9223372036854775808n-9223372036854775808"},
		{math.MinInt, 0, "-9223372036854775808n"},
	} {
		if got := spell.Nth(c.a, c.b); got != c.want {
			t.Errorf("Nth(%d, %d) = %q, want %q", c.a, c.b, got, c.want)
		}
		simples{{nthChild(c.a, c.b), ":nth-child(" + c.want + ")"}}.check(t)
	}
}

// P5.2, each kind.
func TestSimple(t *testing.T) {
	simples{
		{any1, "*"}, {tag("a"), "a"}, {id("a"), "#a"}, {id("1"), "#1"}, {class("a"), ".a"}, {has("a"), "[a]"},
		{is("a", "b"), `[a="b"]`}, {is("a", ""), `[a=""]`}, {is("a", "b c]"), `[a="b c]"]`},
		{state("hover"), ":hover"}, {root, ":root"}, {empty, ":empty"}, {not(tag("a")), ":not(a)"},
		{tag("-z_9\x80\xff"), "-z_9\x80\xff"}, {class("A"), ".A"}, {has("-A"), "[-A]"},
	}.check(t)
}

// P5.2, the quotes around a value: the byte 34 decides alone, wherever it stands.
func TestQuotes(t *testing.T) {
	simples{
		{is("a", `"`), `[a='"']`}, {is("a", `b"c`), `[a='b"c']`}, {is("a", `""`), `[a='""']`},
		{is("a", "'"), `[a="'"]`}, {is("a", "b'c"), `[a="b'c"]`}, {is("a", "'\""), `[a=''"']`}, {is("a", "\"'"), `[a='"'']`},
		{is(`"`, "b"), `["="b"]`}, {is("a", "/*\\\n\x00\xff"), "[a=\"/*\\\n\x00\xff\"]"},
	}.check(t)
	for b := range 256 {
		c := string([]byte{byte(b)})
		quote := `"`
		if b == 34 {
			quote = "'"
		}
		simples{{is("a", "b"+c), "[a=" + quote + "b" + c + quote + "]"}}.check(t)
	}
}

// P5.2, selectors that are not valid: each is written as its kind asks.
func TestInvalidSimple(t *testing.T) {
	simples{
		{api.Simple{}, ""}, {api.Simple{Kind: -1}, ""}, {api.Simple{Kind: 12}, ""}, {api.Simple{Kind: 99}, ""}, {api.Simple{Kind: math.MinInt}, ""}, {api.Simple{Kind: math.MaxInt}, ""},
		{api.Simple{Kind: 12, Name: "a", Value: "b", A: 1, B: 2, L: []api.Simple{any1}}, ""},
		{tag(""), ""}, {tag("A b"), "A b"}, {id(""), "#"}, {id("#a"), "##a"}, {class(""), "."}, {class("1 "), ".1 "}, {has(""), "[]"}, {has("]"), "[]]"},
		{is("", ""), `[=""]`}, {state(""), ":"}, {state("x"), ":x"}, {state("HOVER"), ":HOVER"},
		{not(), ":not()"}, {not(tag("a"), class("b"), any1), ":not(a.b*)"}, {not(not(tag("a"))), ":not(:not(a))"}, {not(api.Simple{}, root), ":not(:root)"},
		{not(not(), not(not(id("a")), empty)), ":not(:not():not(:not(#a):empty))"},
	}.check(t)
}

// P5.2: a field that is not of a kind does not show.
func TestOtherFields(t *testing.T) {
	l := []api.Simple{any1, tag("a"), id("a"), class("a"), has("a"), is("a", "b"), state("hover"), nthChild(2, 1), root, empty, not(tag("a")), {Kind: 12}}
	for _, x := range l {
		y := x
		if y.Name == "" {
			y.Name = "name"
		}
		if x.Kind != api.SimIs {
			y.Value = `"value"`
		}
		if x.Kind != api.SimNth {
			y.A, y.B = 3, 4
		}
		if x.Kind != api.SimNot {
			y.L = []api.Simple{class("in"), not(any1)}
		}
		if spell.Simple(y) != spell.Simple(x) {
			t.Errorf("Simple of %s is %q", tellSels(one(y)), spell.Simple(y))
		}
	}
}

// P5.3, parts, combinators and pseudo-elements.
func TestComplex(t *testing.T) {
	a, b := tag("a"), class("b")
	for _, c := range []struct {
		c    api.Complex
		want string
	}{
		{api.Complex{}, ""}, {complexOf(part(first)), ""}, {complexOf(part(first, a)), "a"}, {complexOf(part(first, a, b, root)), "a.b:root"},
		{complexOf(part(first, a), part(api.CombIn, b)), "a .b"}, {complexOf(part(first, a), part(api.CombChild, b)), "a>.b"},
		{complexOf(part(first, a), part(api.CombNext, b)), "a+.b"}, {complexOf(part(first, a), part(api.CombLater, b)), "a~.b"},
		{complexOf(part(first, a), part(1, a), part(2, a, b), part(3, a), part(4, b), part(1, b)), "a a>a.b+a~.b .b"},
		{complexOf(part(first, a), part(first, b)), "a.b"}, {complexOf(part(1, a)), " a"}, {complexOf(part(2, a)), ">a"}, {complexOf(part(3, a)), "+a"}, {complexOf(part(4, a)), "~a"},
		{complexOf(part(-1, a), part(5, b), part(math.MaxInt, a), part(math.MinInt, a)), "a.baa"}, {complexOf(part(1), part(2), part(3), part(4)), " >+~"},
		{pseudo("before", part(first, a)), "a::before"}, {pseudo("after", part(first, a), part(api.CombIn, b)), "a .b::after"},
		{pseudo("before", part(first)), "::before"}, {pseudo("after", part(first, a), part(api.CombChild)), "a>::after"}, {pseudo("after", part(first, a), part(api.CombIn)), "a ::after"},
		{pseudo("before"), "::before"}, {pseudo("x"), "::x"}, {pseudo(":x y", part(first, a)), "a:::x y"}, {pseudo("\x00\xff", part(9, a)), "a::\x00\xff"},
	} {
		if got := spell.Complex(c.c); got != c.want {
			t.Errorf("Complex of %s is %q, want %q", tellSels(selsOf(c.c)), got, c.want)
		}
		if got := spell.List(selsOf(c.c)); got != c.want {
			t.Errorf("List of %s is %q, want %q", tellSels(selsOf(c.c)), got, c.want)
		}
	}
}

// P5.3, lists.
func TestList(t *testing.T) {
	a, b, c := complexOf(part(first, tag("a"))), pseudo("before", part(first)), api.Complex{}
	for _, x := range []struct {
		l    []api.Complex
		want string
	}{
		{nil, ""}, {selsOf(), ""}, {selsOf(a), "a"}, {selsOf(a, a), "a,a"}, {selsOf(a, b, a), "a,::before,a"},
		{selsOf(c), ""}, {selsOf(c, c), ","}, {selsOf(c, a), ",a"}, {selsOf(a, c), "a,"}, {selsOf(c, c, c), ",,"}, {selsOf(a, c, b), "a,,::before"},
	} {
		if got := spell.List(x.l); got != x.want {
			t.Errorf("List of %s is %q, want %q", tellSels(x.l), got, x.want)
		}
	}
}

// The words of P5.3, on selectors that nobody chose: a text is those of its parts, one behind the other.
func TestTextsOfParts(t *testing.T) {
	combs := map[int]string{1: " ", 2: ">", 3: "+", 4: "~"}
	w := probe.NewWild(11)
	for range 20000 {
		l := w.Sels()
		texts := make([]string, len(l))
		for i, c := range l {
			for _, p := range c.Parts {
				texts[i] += combs[p.Comb]
				for _, x := range p.L {
					texts[i] += spell.Simple(x)
				}
			}
			if c.Pseudo != "" {
				texts[i] += "::" + c.Pseudo
			}
			if got := spell.Complex(c); got != texts[i] {
				t.Fatalf("Complex of %s is %q, want %q", tellSels(selsOf(c)), got, texts[i])
			}
		}
		if got, want := spell.List(l), strings.Join(texts, ","); got != want {
			t.Fatalf("List of %s is %q, want %q", tellSels(l), got, want)
		}
	}
}

// The example of the chapter, and others that are read first.
func TestReadAndPrint(t *testing.T) {
	for _, c := range [][2]string{
		{"a > .b , c", "a>.b,c"}, {" A.b#C  D ", "a.b#C d"}, {"[ x = y ][x='y'][x]", `[x="y"][x="y"][x]`}, {`[x='"']`, `[x='"']`}, {`[x="'"]`, `[x="'"]`},
		{":first-child:nth-child(odd):nth-child(even):nth-child(n)", ":nth-child(1):nth-child(2n+1):nth-child(2n):nth-child(1n)"},
		{":nth-child( -02n-003 ):nth-child(0n+4):nth-child(0n)", ":nth-child(-2n-3):nth-child(4):nth-child(0)"},
		{":not( .a ) ~ :not(*) + ::after", ":not(.a)~:not(*)+::after"}, {"a/**/b", ""}, {"a/**/ /**/b", "a b"}, {"a::before , ::after", "a::before,::after"},
	} {
		l, err := sels.Read(c[0])
		if got := spell.List(l); got != c[1] || (err == api.OK) != (c[1] != "") {
			t.Errorf("%q is printed as %q, error %d, want %q", c[0], got, err, c[1])
		}
	}
}
