package nest

import "winnowing/api"

// noBlock stands for the kind of the block around the outermost values: there is none,
// and so there is no closing token either. No fence has this kind.
const noBlock = 0

// tooDeep is what the parser panics with at a block inside too many others.
type tooDeep struct{}

// parser reads the tokens that are left, of which each is taken once.
type parser struct {
	rest   []api.Token
	deep   int
	fences map[int]fence
}

// values reads what stands in a block of that kind, with its closing token, or all that is left.
// around is how many blocks it stands in.
func (p *parser) values(kind, around int) []api.Val {
	var l []api.Val
	for len(p.rest) > 0 {
		t := p.rest[0]
		p.rest = p.rest[1:]
		if p.closes(t, kind) {
			break
		}
		l = append(l, p.value(t, around))
	}
	return l
}

// value reads the value that begins with t.
func (p *parser) value(t api.Token, around int) api.Val {
	kind := p.kindOf(t)
	if kind == api.ValTok {
		return api.Val{Kind: kind, Tok: t}
	}
	if around >= p.deep {
		panic(tooDeep{})
	}
	v := api.Val{Kind: kind, L: p.values(kind, around+1)}
	if kind == api.ValFunc {
		v.Tok = t
	}
	return v
}

func (p *parser) closes(t api.Token, kind int) bool {
	f, ok := p.fences[kind]
	return ok && t == delim(f.shut)
}

// kindOf returns the kind of the block that t opens, or ValTok if it opens none.
func (p *parser) kindOf(t api.Token) int {
	if t.Kind == api.TokFunc {
		return api.ValFunc
	}
	for kind := api.ValRound; kind <= api.ValCurly; kind++ {
		if t == delim(p.fences[kind].open) {
			return kind
		}
	}
	return api.ValTok
}
