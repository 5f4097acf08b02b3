package sheet

import (
	"winnowing/api"
	"winnowing/decls"
	"winnowing/nest"
	"winnowing/sels"
	"winnowing/split"
)

// The kinds of statements. That of an at-rule has its name behind it, which keeps one without a name from being a rule.
const (
	rule   = ""
	atRule = "@"
)

// statement is a piece of a list of values, of which it shares the memory: an item gets copies.
type statement struct {
	kind     string
	prelude  []api.Val
	block    []api.Val
	hasBlock bool
}

// item returns the item that s is, if it is one, wherever it stands.
func (s *statement) item() (api.Item, bool) {
	kinds := map[string]func() (api.Item, bool){
		rule:                s.rule,
		atRule + mediaName:  s.media,
		atRule + layerName:  s.layer,
		atRule + framesName: s.frames,
		atRule + fontName:   s.font,
	}
	read, ok := kinds[s.kind]
	if !ok {
		return api.Item{}, false
	}
	return read()
}

func (s *statement) rule() (api.Item, bool) {
	declarations := decls.Parse(s.block)
	if len(declarations) == 0 {
		return api.Item{}, false
	}
	selectors, err := sels.Parse(split.Trim(s.prelude))
	if err != api.OK {
		return api.Item{}, false
	}
	return api.Item{Kind: api.ItemRule, Sels: selectors, Decls: declarations}, true
}

func (s *statement) media() (api.Item, bool) {
	least, most, ok := widths(s.prelude)
	if !ok {
		return api.Item{}, false
	}
	inner := itemsIn(s.block, inMedia)
	if len(inner) == 0 {
		return api.Item{}, false
	}
	return api.Item{Kind: api.ItemMedia, Min: least, Max: most, L: inner}, true
}

func (s *statement) layer() (api.Item, bool) {
	names, ok := nameList(s.prelude)
	switch {
	case !ok:
		return api.Item{}, false
	case !s.hasBlock:
		return api.Item{Kind: api.ItemNames, Names: names}, true
	case len(names) == 1:
		return api.Item{Kind: api.ItemLayer, Names: names, L: itemsIn(s.block, inLayer)}, true
	}
	return api.Item{}, false
}

func (s *statement) frames() (api.Item, bool) {
	name, ok := onlyName(s.prelude)
	if !ok || !s.hasBlock || nest.Depth(s.block) > api.MaxValue {
		return api.Item{}, false
	}
	return api.Item{Kind: api.ItemFrames, Names: []string{name}, Vals: split.Trim(s.block)}, true
}

func (s *statement) font() (api.Item, bool) {
	declarations := decls.Parse(s.block)
	if len(split.Trim(s.prelude)) > 0 || len(declarations) == 0 {
		return api.Item{}, false
	}
	return api.Item{Kind: api.ItemFont, Decls: declarations}, true
}
