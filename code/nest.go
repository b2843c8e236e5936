package code

import (
	"coinage/api"
	"coinage/digest"
)

// behind tells where the byte of code stands that is next in a piece. It is
// beyond the piece's end, if that cuts off the number of a Push.
func behind(piece string, at int) int {
	if piece[at] == api.Push {
		return at + 1 + digest.Size
	}
	return at + 1
}

// ends tells where the two parts of the If at a place end: at its Else and its
// End, or, if it has no Else, both at its End.
func ends(piece string, at int) (middle, end int) {
	middle = -1
	entered := 0
	for i := at + 1; i < len(piece); i = behind(piece, i) {
		switch op := piece[i]; {
		case op == api.If:
			entered++
		case op == api.End && entered > 0:
			entered--
		case entered > 0:
			// An Else in here is that of another If.
		case op == api.Else && middle >= 0:
			panic(api.ErrNest)
		case op == api.Else:
			middle = i
		case op == api.End && middle < 0:
			return i, i
		case op == api.End:
			return middle, i
		}
	}
	panic(api.ErrNest)
}
