package sheet

import "winnowing/api"

// The places where items stand.
const (
	atTop = iota
	inLayer
	inMedia
)

// noWidth is the Max of a media block without any.
const noWidth = -1

// allowed reports whether an item of that kind may stand at that place.
func allowed(kind, place int) bool {
	switch kind {
	case api.ItemRule, api.ItemFrames, api.ItemFont:
		return true
	case api.ItemMedia:
		return place != inMedia
	case api.ItemLayer, api.ItemNames:
		return place == atTop
	}
	return false
}
