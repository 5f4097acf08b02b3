package sheet_test

import (
	"regexp"
	"strconv"
	"strings"
	"testing"

	"winnowing/api"
	"winnowing/decls"
	"winnowing/nest"
	"winnowing/probe"
	"winnowing/sels"
	"winnowing/sheet"
	"winnowing/spell"
	"winnowing/split"
)

// A second reading of the promises: each value is written as one letter, and what is asked is asked of that text.
func letters(l []api.Val) string {
	var s strings.Builder
	for _, v := range l {
		s.WriteByte(letter(v))
	}
	return s.String()
}

func letter(v api.Val) byte {
	switch v.Kind {
	case api.ValRound:
		return conditionLetter(letters(v.L))
	case api.ValCurly:
		return '{'
	case api.ValTok:
		return tokenLetter(v.Tok)
	}
	return 'o'
}

func tokenLetter(t api.Token) byte {
	switch t.Kind {
	case api.TokAt:
		return '@'
	case api.TokWhite:
		return ' '
	case api.TokIdent:
		return nameLetter(t.Text)
	case api.TokNum:
		if t.Text == "px" && t.N >= 0 && t.N <= 100000 {
			return 'p'
		}
	case api.TokDelim:
		if len(t.Text) == 1 && t.N == 0 && strings.Contains(":,;", t.Text) {
			return t.Text[0]
		}
	}
	return 'o'
}

func nameLetter(s string) byte {
	switch {
	case s == "":
		return 'o'
	case s == "min-width":
		return 'l'
	case s == "max-width":
		return 'm'
	case len(s) == 3 && strings.EqualFold(s, "and"):
		return '&'
	}
	return 'n'
}

// conditionLetter: L for a least width, M for a greatest one, and R for a block that is no condition.
func conditionLetter(inner string) byte {
	switch {
	case leastWidth.MatchString(inner):
		return 'L'
	case mostWidth.MatchString(inner):
		return 'M'
	}
	return 'R'
}

var (
	aStatement  = regexp.MustCompile(`^ *(?:(@)([^;{]*)(;|\{|$)|([^@ {][^{]*)?(\{))`)
	leastWidth  = regexp.MustCompile(`^ *l *: *p *$`)
	mostWidth   = regexp.MustCompile(`^ *m *: *p *$`)
	conditions  = regexp.MustCompile(`^ *[LM](?: +& +[LM])* *$`)
	someNames   = regexp.MustCompile(`^ *[lmn&](?: *, *[lmn&]){0,15} *$`)
	oneName     = regexp.MustCompile(`^ *[lmn&] *$`)
	onlyBlanks  = regexp.MustCompile(`^ *$`)
	blanksAhead = regexp.MustCompile(`^ *`)
)

// referenceItems tells the kinds that may stand in l by their numbers.
func referenceItems(l []api.Val, kinds string) []api.Item {
	var items []api.Item
	s := letters(l)
	for {
		m := aStatement.FindStringSubmatchIndex(s)
		if m == nil {
			return items
		}
		x := api.Item{}
		if m[2] >= 0 {
			x = referenceAt(l[m[2]].Tok.Text, l[m[4]:m[5]], s[m[4]:m[5]], l[m[6]:m[7]])
		} else {
			x = referenceRule(l[len(blanksAhead.FindString(s)):m[10]], l[m[10]])
		}
		if x.Kind > 0 && strings.Contains(kinds, string([]byte{byte('0' + x.Kind)})) {
			items = append(items, x)
		}
		l, s = l[m[1]:], s[m[1]:]
	}
}

func referenceRule(prelude []api.Val, block api.Val) api.Item {
	selectors, err := sels.Parse(prelude)
	declarations := decls.Parse(block.L)
	if err != api.OK || len(declarations) == 0 {
		return api.Item{}
	}
	return rule(selectors, declarations...)
}

// referenceAt returns an item without a kind where there is none. What ends the prelude is a list of one value, or of none.
func referenceAt(word string, prelude []api.Val, s string, end []api.Val) api.Item {
	hasBlock := len(end) == 1 && end[0].Kind == api.ValCurly
	var block []api.Val
	if hasBlock {
		block = end[0].L
	}
	switch word = asciiLower(word); {
	case word == "media" && hasBlock && conditions.MatchString(s):
		x := media(0, -1, referenceItems(block, "156")...)
		for _, v := range prelude {
			narrow(&x, letter(v), v)
		}
		if len(x.L) > 0 {
			return x
		}
	case word == "layer" && hasBlock && oneName.MatchString(s):
		return layer(namesAmong(prelude)[0], referenceItems(block, "1256")...)
	case word == "layer" && !hasBlock && someNames.MatchString(s):
		return names(namesAmong(prelude)...)
	case word == "keyframes" && hasBlock && oneName.MatchString(s) && nest.Depth(block) <= 56:
		inner := letters(block)
		from, to := len(inner)-len(strings.TrimLeft(inner, " ")), len(strings.TrimRight(inner, " "))
		return frames(namesAmong(prelude)[0], block[min(from, to):to]...)
	case word == "font-face" && hasBlock && onlyBlanks.MatchString(s):
		if l := decls.Parse(block); len(l) > 0 {
			return font(l...)
		}
	}
	return api.Item{}
}

func narrow(x *api.Item, letter byte, v api.Val) {
	for _, inner := range v.L {
		n := inner.Tok.N
		if inner.Kind != api.ValTok || inner.Tok.Kind != api.TokNum {
			continue
		}
		if letter == 'L' && n > x.Min {
			x.Min = n
		}
		if letter == 'M' && (x.Max == -1 || n < x.Max) {
			x.Max = n
		}
	}
}

func namesAmong(l []api.Val) []string {
	var found []string
	for _, v := range l {
		if v.Tok.Kind == api.TokIdent {
			found = append(found, v.Tok.Text)
		}
	}
	return found
}

func asciiLower(s string) string {
	b := []byte(s)
	for i := range b {
		if strings.IndexByte("ABCDEFGHIJKLMNOPQRSTUVWXYZ", b[i]) >= 0 {
			b[i] |= 32
		}
	}
	return string(b)
}

func checkItems(t *testing.T, l []api.Val) {
	t.Helper()
	if got, want := tellItems(sheet.Items(l)), tellItems(referenceItems(l, "123456")); got != want {
		t.Fatalf("Items of %s: %s, want %s", tell(l), got, want)
	}
}

// P8.1 against the second reading: all short lists of the values that matter, by themselves and as preludes and blocks.
func TestAgainstReference(t *testing.T) {
	probe.Each(list(a, white, semi, block, atLayer, comma, noKind), 5, func(l []api.Val) {
		checkItems(t, l)
	})
	probe.Each(list(atMedia, least3, white, name("and"), most5, curly(a, block)), 6, func(l []api.Val) { checkItems(t, l) })
	many := list(name("AND"), white, comma, semi, numbered(semi), filled(comma), name(""), least3, most5, round(name("min-width"), colon), curly(white, a, white), curly(b, block, c, block))
	probe.Each(many, 3, func(l []api.Val) {
		for _, first := range list(atMedia, atLayer, atFrames, atFont, at("LAYER"), at(""), a) {
			checkItems(t, append(append(list(first), l...), block, b, block))
			checkItems(t, append(append(list(first, least3), l...), curly(a, block), b, block))
			checkItems(t, list(atLayer, a, curly(append(append(list(first), l...), curly(a, block), b, block)...)))
		}
	})
	probe.Each(list(name("min-width"), name("max-width"), white, colon, num(100000, "px"), num(-1, "px"), num(3, "PX"), num(100001, "px"), noKind), 4, func(l []api.Val) {
		checkItems(t, list(atMedia, round(l...), curly(a, block)))
	})
	w := probe.NewWild(3)
	for range 5000 {
		var l []api.Val
		for _, first := range list(atMedia, atLayer, atFrames, atFont, at("x"), a) {
			l = append(append(append(l, first), w.Vals(1)...), least3)
			l = append(append(append(l[:len(l)-w.Below(2)], curly(w.Vals(2)...)), w.Vals(1)...), sheet.Vals(w.Items(3)...)...)
		}
		checkItems(t, l)
	}
}

// referenceText is the text of valid items, written apart from Vals.
func referenceText(l []api.Item) string {
	var s strings.Builder
	for _, x := range l {
		block := "{" + split.Text(decls.Vals(x.Decls...)) + split.Text(x.Vals) + referenceText(x.L) + "}"
		switch x.Kind {
		case api.ItemRule:
			s.WriteString(spell.List(x.Sels) + block)
		case api.ItemMedia:
			s.WriteString("@media " + referenceConditions(x) + block)
		case api.ItemLayer:
			s.WriteString("@layer " + x.Names[0] + block)
		case api.ItemNames:
			s.WriteString("@layer " + strings.Join(x.Names, ",") + ";")
		case api.ItemFrames:
			s.WriteString("@keyframes " + x.Names[0] + block)
		case api.ItemFont:
			s.WriteString("@font-face" + block)
		}
	}
	return s.String()
}

func referenceConditions(x api.Item) string {
	least, most := "(min-width:"+strconv.Itoa(x.Min)+"px)", "(max-width:"+strconv.Itoa(x.Max)+"px)"
	switch {
	case x.Max < 0:
		return least
	case x.Min == 0:
		return most
	}
	return least + " and " + most
}

// referenceMay asks whether l is what its own values are parsed to, whose text is read back.
func referenceMay(l []api.Item) bool {
	v := sheet.Vals(l...)
	back, err := split.Read(split.Text(v))
	return err == api.OK && tell(back) == tell(v) && tellItems(sheet.Items(back)) == tellItems(l)
}

// P8.2, P8.3 and the first half of P8.4: valid items, and no others, are read back from their text.
func TestValidAreReadBack(t *testing.T) {
	w := probe.NewWild(4)
	valid, kinds := 0, [7]int{}
	for range 30000 {
		l := w.Items(3)
		if sheet.May(l) != referenceMay(l) {
			t.Fatalf("May of %s is %t", tellItems(l), !referenceMay(l))
		}
		if !sheet.May(l) {
			continue
		}
		back, err := sheet.Parse(sheet.Text(l))
		if err != api.OK || tellItems(back) != tellItems(l) || !sheet.Same(back, l) {
			t.Fatalf("%s is read back %s", tellItems(l), tellItems(back))
		}
		if want, err := split.Read(referenceText(l)); err != api.OK || tell(sheet.Vals(l...)) != tell(want) {
			t.Fatalf("Vals of %s: %s, want %s", tellItems(l), tell(sheet.Vals(l...)), tell(want))
		}
		valid++
		for _, x := range l {
			kinds[x.Kind]++
		}
	}
	for kind := api.ItemRule; kind <= api.ItemFont; kind++ {
		if valid < 5000 || kinds[kind] < 500 {
			t.Errorf("too little was tried: %d valid ones, with %d of kind %d", valid, kinds[kind], kind)
		}
	}
}

func checkText(t *testing.T, s string) {
	t.Helper()
	l, err := split.Read(s)
	got, parseErr := sheet.Parse(s)
	if err != parseErr {
		t.Fatalf("%q: error %d, want %d", s, parseErr, err)
	}
	if err != api.OK {
		return
	}
	checkItems(t, l)
	if tellItems(got) != tellItems(sheet.Items(l)) || !sheet.May(got) || !referenceMay(got) {
		t.Fatalf("%q is parsed %s, which is not valid", s, tellItems(got))
	}
	text := sheet.Text(got)
	back, err := sheet.Parse(text)
	if err != api.OK || !sheet.Same(back, got) || tellItems(back) != tellItems(got) || sheet.Text(back) != text {
		t.Fatalf("%q, that is %s, is read back %s from %q", s, tellItems(got), tellItems(back), text)
	}
}

// P8.4, its second half: every sheet that Parse returns is valid.
func TestParsedAreValid(t *testing.T) {
	var c probe.Chance = 7
	pieces := []string{
		"a", "b", ".c", " ", " ", ",", ":", ";", "{", "}", "{", "}", "{x:y}", "{x:y;--A:{;}!important}", "}}", "(", ")", "f(", "]",
		"a{x:y}", "b,.c{x:y;y:{}}", "@layer d{", "@layer e;", "@font-face{x:y}", "@keyframes k{a{x:y}}", "@media (min-width:3px) and (max-width:5px){a{x:y}",
		"@media ", "(min-width:3px)", " and ", "(max-width: 5px)", "@layer ", "@layer a{", "@media (min-width:1px){", "@keyframes k{", "@font-face{", "@x", "1", "'", "\"", "/*", "*/", "<", "/", "\xff", "-",
	}
	found := 0
	for range 30000 {
		s := ""
		for range c.Below(20) {
			s += pieces[c.Below(len(pieces))]
		}
		checkText(t, s)
		l, _ := sheet.Parse(s)
		found += min(len(l), 1)
	}
	if found < 5000 {
		t.Errorf("only %d texts have items", found)
	}
	checkText(t, anyText)
	for i := range anyText {
		checkText(t, anyText[i:])
		checkText(t, anyText[:i])
	}
}

func FuzzParse(f *testing.F) {
	f.Add("@layer a, b; @media (min-width: 9px) { p { x: y } }")
	f.Add(anyText)
	f.Fuzz(checkText)
}
