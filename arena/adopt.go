package arena

import (
	"cmp"
	"slices"

	"fusee/api"
	"fusee/block"
)

// isBeyond reports whether f bears a number that a store could not go on from.
func isBeyond(f api.Found) bool { return f.B.ID > api.MaxSeen || f.B.Ver > api.MaxSeen }

// isPayload reports whether f is a block that can be linked.
func isPayload(f api.Found) bool {
	return f.Good && block.May(f.B) && (f.B.Kind == api.KindMap || f.B.Kind == api.KindQueue)
}

// linkOf returns the link of the block b at line.
func linkOf(line int, b api.Block) api.Link {
	return api.Link{Key: b.Key, ID: b.ID, Ver: b.Ver, Line: line, Class: b.Class}
}

// adopt makes the blocks of l those of an empty store and reports whether they may be. If not, the store is good for nothing.
func (a *Arena) adopt(l []api.Found) bool {
	var queue []api.Link
	for _, f := range l {
		if !isPayload(f) || a.pool.Mark(f.Line, f.B.Class) != api.OK {
			return false
		}
		a.assign(f.B)
		k := linkOf(f.Line, f.B)
		if f.B.Kind == api.KindQueue {
			queue = append(queue, k)
			continue
		}
		if a.table.Set(k) {
			return false
		}
		a.order.Set(k)
	}
	// Vers rise in the order in which blocks were published.
	slices.SortStableFunc(queue, func(x, y api.Link) int { return cmp.Compare(x.Ver, y.Ver) })
	for _, k := range queue {
		a.line.Push(k)
	}
	return true
}
