package expand

import (
	"iter"

	"shyard/api"
)

// item is a piece, or a break between two.
type item struct {
	isBreak bool
	piece   api.Piece
}

// betweenBreaks gives the pieces that stand between two breaks, and ahead of the first and behind the last one.
func betweenBreaks(items []item) iter.Seq[[]api.Piece] {
	return func(yield func([]api.Piece) bool) {
		var pieces []api.Piece
		for _, i := range items {
			if !i.isBreak {
				pieces = append(pieces, i.piece)
				continue
			}
			if !yield(pieces) {
				return
			}
			pieces = nil
		}
		yield(pieces)
	}
}
