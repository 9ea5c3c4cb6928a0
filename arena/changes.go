package arena

import (
	"slices"

	"fusee/api"
	"fusee/block"
)

// changesKey reports whether c changes what is held under its key.
func changesKey(c api.Change) bool { return c.Kind == api.CallPut || c.Kind == api.CallDel }

// needsBlock reports whether c, a change, writes a block: only a del that found nothing does not.
func needsBlock(c api.Change) bool { return c.Kind != api.CallDel || c.Had }

// isNew reports whether what c writes has an ID of its own, and not that of what it replaces or removes.
func isNew(c api.Change) bool { return c.Kind == api.CallEnq || c.Kind == api.CallPut && !c.Had }

// isList reports whether l may be published together.
func isList(l []api.Change) bool {
	if len(l) == 0 || len(l) > api.MaxGroup {
		return false
	}
	for i, c := range l {
		if !isChange(c) || collides(l[:i], c) {
			return false
		}
	}
	return true
}

// isChange reports whether c is of a kind that changes a store.
func isChange(c api.Change) bool {
	switch c.Kind {
	case api.CallPut, api.CallDel, api.CallEnq:
		return true
	case api.CallDeq:
		return c.Had
	}
	return false
}

// collides reports whether one of l changes what c was prepared for: its key, or the head of the queue.
func collides(l []api.Change, c api.Change) bool {
	return slices.ContainsFunc(l, func(x api.Change) bool {
		if changesKey(c) {
			return changesKey(x) && x.Key == c.Key
		}
		return c.Kind == api.CallDeq && x.Kind == api.CallDeq
	})
}

// blockOf returns the block that c writes in epoch e, valid or not.
func blockOf(c api.Change, e, id, ver uint64) api.Block {
	b := api.Block{ID: id, Ver: ver, Epoch: e}
	switch c.Kind {
	case api.CallPut:
		b.Class, b.Kind, b.Key, b.Value = c.Class, api.KindMap, c.Key, c.Value
	case api.CallEnq:
		b.Class, b.Kind, b.Value = c.Class, api.KindQueue, c.Value
	default:
		b.Kind = api.KindAnti
	}
	return b
}

// areFormed reports whether all blocks that l writes in epoch e may be, and are of the classes that were taken for them.
func areFormed(l []api.Change, e uint64) bool {
	for _, c := range l {
		if !needsBlock(c) {
			continue
		}
		if b := blockOf(c, e, 1, 1); !block.May(b) || b.Class != c.Class {
			return false
		}
	}
	return true
}

// effectOf returns the effect of the change c, which wrote the block b.
func effectOf(c api.Change, b api.Block, group uint64) api.Effect {
	x := api.Effect{Key: b.Key, Value: b.Value, ID: b.ID, Ver: b.Ver, Epoch: b.Epoch, Group: int(group)}
	switch c.Kind {
	case api.CallPut:
		x.Kind = api.EffSet
	case api.CallDel:
		// An anti does not bear the key of what it removes.
		x.Kind, x.Key = api.EffDrop, c.Key
	case api.CallEnq:
		x.Kind = api.EffPush
	case api.CallDeq:
		x.Kind = api.EffPop
	}
	return x
}
