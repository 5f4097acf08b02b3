package toks_test

import (
	"regexp"
	"slices"
	"strconv"
	"strings"
	"testing"

	"winnowing/api"
	"winnowing/toks"
)

// P1.1, case 1.
func TestComments(t *testing.T) {
	lexes{
		{"/**/", nil},
		{"/* x */", nil},
		{"a/*b*/c", list(ident("a"), ident("c"))},
		{"/*/", nil},
		{"/*/a*/b", list(ident("b"))},
		{"/***/a", list(ident("a"))},
		{"/*/*/a", list(ident("a"))},
		{"/**//**/a", list(ident("a"))},
		{"/*a*//b", list(delim("/"), ident("b"))},
		{"/*a*/*/b", list(delim("*"), delim("/"), ident("b"))},
		{"a/*b\n'\"c", list(ident("a"))},
		{"a/*", list(ident("a"))},
		{"a/*b*", list(ident("a"))},
		{"/ *", list(delim("/"), white, delim("*"))},
		{"/", list(delim("/"))},
		{" /**/ ", list(white, white)},
		{"1/**/px", list(num(1, ""), ident("px"))},
		{"f/**/(", list(ident("f"), delim("("))},
		{"#/**/a", list(delim("#"), ident("a"))},
		{"@/**/a", list(delim("@"), ident("a"))},
		{"-/**/1", list(delim("-"), num(1, ""))},
		{"'/*'*/", list(str("/*", 39), delim("*"), delim("/"))},
	}.check(t)
}

// P1.1, case 2.
func TestBlanks(t *testing.T) {
	lexes{
		{" ", list(white)},
		{"\t", list(white)},
		{"\n", list(white)},
		{"\f", list(white)},
		{"\r", list(white)},
		{" \t\n\f\r \n", list(white)},
		{"a \n b", list(ident("a"), white, ident("b"))},
		{"\v", list(delim("\v"))},
		{"\x00 ", list(delim("\x00"), white)},
		{"\xa0", list(ident("\xa0"))},
		{"\x1f\x7f", list(delim("\x1f"), delim("\x7f"))},
	}.check(t)
}

// P1.1, case 3.
func TestStrings(t *testing.T) {
	lexes{
		{`""`, list(str("", 34))},
		{`''`, list(str("", 39))},
		{`"a"`, list(str("a", 34))},
		{`'a'b`, list(str("a", 39), ident("b"))},
		{`"it's"`, list(str("it's", 34))},
		{`'"'`, list(str(`"`, 39))},
		{`"""`, list(str("", 34), delim(`"`))},
		{`"a\"b`, list(str(`a\`, 34), ident("b"))},
		{"'a b\t\v\x00\xff'", list(str("a b\t\v\x00\xff", 39))},
		{`"a`, list(delim(`"`), ident("a"))},
		{`'`, list(delim("'"))},
		{`'"`, list(delim("'"), delim(`"`))},
		{`'"x"`, list(delim("'"), str("x", 34))},
		{"'a\n'", list(delim("'"), ident("a"), white, delim("'"))},
		{"'a\r'b'", list(delim("'"), ident("a"), white, str("b", 39))},
		{"\"\f\"", list(delim(`"`), white, delim(`"`))},
		{`"/*"*/`, list(str("/*", 34), delim("*"), delim("/"))},
		{`"/*`, list(delim(`"`))},
		{`"#a @b 1`, list(delim(`"`), hash("a"), white, at("b"), white, num(1, ""))},
	}.check(t)
}

// P1.1, cases 4 and 5.
func TestHashesAndAts(t *testing.T) {
	lexes{
		{"#a", list(hash("a"))},
		{"#1a", list(hash("1a"))},
		{"#-", list(hash("-"))},
		{"#-1(", list(hash("-1"), delim("("))},
		{"#_\x80Zz09-.", list(hash("_\x80Zz09-"), delim("."))},
		{"#", list(delim("#"))},
		{"##a", list(delim("#"), hash("a"))},
		{"# a", list(delim("#"), white, ident("a"))},
		{"#%", list(delim("#"), delim("%"))},
		{"@a", list(at("a"))},
		{"@-a1", list(at("-a1"))},
		{"@--", list(at("--"))},
		{"@_\xff9 ", list(at("_\xff9"), white)},
		{"@a(", list(at("a"), delim("("))},
		{"@", list(delim("@"))},
		{"@1", list(delim("@"), num(1, ""))},
		{"@-1", list(delim("@"), num(-1, ""))},
		{"@-", list(delim("@"), delim("-"))},
		{"@@a", list(delim("@"), at("a"))},
		{"@ a", list(delim("@"), white, ident("a"))},
	}.check(t)
}

// P1.1, case 6.
func TestNumbers(t *testing.T) {
	lexes{
		{"0", list(num(0, ""))},
		{"-0", list(num(0, ""))},
		{"0123456789", list(num(123456789, ""))},
		{"-12", list(num(-12, ""))},
		{"000000000000000000000000000000001", list(num(1, ""))},
		{"999999998", list(num(999999998, ""))},
		{"999999999", list(num(api.MaxNum, ""))},
		{"1000000000", list(num(api.MaxNum, ""))},
		{"-1000000000x", list(num(-api.MaxNum, "x"))},
		{"99999999999999999999999999999999999999", list(num(api.MaxNum, ""))},
		{"9223372036854775808", list(num(api.MaxNum, ""))},
		{"18446744073709551617", list(num(api.MaxNum, ""))},
		{"10000000000000000000000px", list(num(api.MaxNum, "px"))},
		{"5%", list(num(5, "%"))},
		{"5%%", list(num(5, "%"), delim("%"))},
		{"5%a", list(num(5, "%"), ident("a"))},
		{"5a%", list(num(5, "a"), delim("%"))},
		{"5 %", list(num(5, ""), white, delim("%"))},
		{"1e3", list(num(1, "e3"))},
		{"2n-1", list(num(2, "n-1"))},
		{"2n+1", list(num(2, "n"), delim("+"), num(1, ""))},
		{"1\x80", list(num(1, "\x80"))},
		{"1_", list(num(1, "_"))},
		{"1-a", list(num(1, "-a"))},
		{"1--", list(num(1, "--"))},
		{"1-", list(num(1, ""), delim("-"))},
		{"1-2", list(num(1, ""), num(-2, ""))},
		{"1px(", list(num(1, "px"), delim("("))},
		{"1.5", list(num(1, ""), delim("."), num(5, ""))},
		{"+1", list(delim("+"), num(1, ""))},
		{"- 1", list(delim("-"), white, num(1, ""))},
		{"/:", list(delim("/"), delim(":"))},
	}.check(t)
}

// P1.1, case 7.
func TestNames(t *testing.T) {
	lexes{
		{"a", list(ident("a"))},
		{"AZaz_-09", list(ident("AZaz_-09"))},
		{"-a", list(ident("-a"))},
		{"-_", list(ident("-_"))},
		{"-\x80", list(ident("-\x80"))},
		{"--", list(ident("--"))},
		{"---", list(ident("---"))},
		{"--1", list(ident("--1"))},
		{"-->", list(ident("--"), delim(">"))},
		{"\x80\xff", list(ident("\x80\xff"))},
		{"\u00e9\u4e16", list(ident("\u00e9\u4e16"))},
		{"f(", list(function("f"))},
		{"f((", list(function("f"), delim("("))},
		{"--(1)", list(function("--"), num(1, ""), delim(")"))},
		{"f (", list(ident("f"), white, delim("("))},
		{"f)", list(ident("f"), delim(")"))},
		{"a.b", list(ident("a"), delim("."), ident("b"))},
		{"a#b@c", list(ident("a"), hash("b"), at("c"))},
	}.check(t)
}

// P1.1, case 8: every byte that no other case takes.
func TestDelims(t *testing.T) {
	for b := range 128 {
		one := string([]byte{byte(b)})
		isDelim := strings.Contains(signs, one)
		got := toks.All(one)
		if len(got) != 1 || (got[0] == delim(one)) != isDelim {
			t.Errorf("All(%q) = %#v", one, got)
		}
	}
	lexes{
		{"-", list(delim("-"))},
		{"-.", list(delim("-"), delim("."))},
		{"{};", list(delim("{"), delim("}"), delim(";"))},
		{"<!--a", list(delim("<"), delim("!"), ident("--a"))},
		{`\a`, list(delim(`\`), ident("a"))},
	}.check(t)
}

func TestEmptyText(t *testing.T) {
	if l := toks.All(""); len(l) != 0 {
		t.Error(l)
	}
}

const (
	refName = `(?:[A-Za-z_\x{80}-\x{ff}]|-[A-Za-z_\x{80}-\x{ff}-])[A-Za-z0-9_\x{80}-\x{ff}-]*`
	refText = `(?s)^(?:(/\*.*?(?:\*/|$))|([ \t\n\f\r]+)|"([^"\n\f\r]*)"|'([^'\n\f\r]*)'|#([A-Za-z0-9_\x{80}-\x{ff}-]+)` +
		`|@(` + refName + `)|(-?[0-9]+)(%|` + refName + `)?|(` + refName + `)(\()?|(.))`
)

var refWords = regexp.MustCompile(refText)

// reference reads the list of cases as one expression, in which the first case that applies is taken.
// A byte is one rune in it, so that those from 128 on are single ones.
func reference(s string) []api.Token {
	rest := make([]rune, len(s))
	for i := range len(s) {
		rest[i] = rune(s[i])
	}
	var l []api.Token
	for wide := string(rest); wide != ""; {
		m := refWords.FindStringSubmatchIndex(wide)
		group := func(k int) string {
			var b []byte
			for _, r := range wide[m[2*k]:m[2*k+1]] {
				b = append(b, byte(r))
			}
			return string(b)
		}
		has := func(k int) bool { return m[2*k] >= 0 }
		switch {
		case has(1):
		case has(2):
			l = append(l, white)
		case has(3):
			l = append(l, str(group(3), 34))
		case has(4):
			l = append(l, str(group(4), 39))
		case has(5):
			l = append(l, hash(group(5)))
		case has(6):
			l = append(l, at(group(6)))
		case has(7):
			l = append(l, referenceNumber(group(7), has(8), group))
		case has(10):
			l = append(l, function(group(9)))
		case has(9):
			l = append(l, ident(group(9)))
		default:
			l = append(l, delim(group(11)))
		}
		wide = wide[m[1]:]
	}
	return l
}

func referenceNumber(digits string, hasUnit bool, group func(int) string) api.Token {
	unit := ""
	if hasUnit {
		unit = group(8)
	}
	n, err := strconv.Atoi(digits)
	if err != nil || n > api.MaxNum || n < -api.MaxNum {
		n = api.MaxNum
		if digits[0] == '-' {
			n = -n
		}
	}
	return num(n, unit)
}

// P1.1, the order of the cases: all short texts of the bytes that matter, and long ones.
func TestAgainstReference(t *testing.T) {
	compare := func(s string) {
		if got, want := toks.All(s), reference(s); !slices.Equal(got, want) {
			t.Fatalf("All(%q) = %#v, want %#v", s, got, want)
		}
	}
	eachString("a1-/*\"'#@( %\n\x80", 4, compare)
	eachString("/*\n'\"-", 6, compare)
	for i := range uint64(3000) {
		compare(randomBytes(i, "aZ_09--/**\"'#@(). %\n\r\t\f\x00\x80\xff<:", int(i%97)))
	}
	var every []byte
	for b := range 256 {
		every = append(every, byte(b))
	}
	for i := range uint64(300) {
		compare(randomBytes(i, string(every), 200))
	}
}
