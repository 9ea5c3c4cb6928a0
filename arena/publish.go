package arena

import (
	"slices"

	"fusee/api"
	"fusee/class"
)

// Publish performs the changes l for thread t in epoch e, in one step, and returns for each whether it found something.
func (a *Arena) Publish(t int, e uint64, l []api.Change) ([]bool, api.Errno) {
	if a == nil || !a.isThread(t) || !isList(l) {
		return nil, api.ErrArg
	}
	if e != a.clock.Now() || !a.areCurrent(l) {
		return nil, api.ErrRetry
	}
	if !a.ownBlocks(l) {
		return nil, api.ErrArg
	}
	if !areFormed(l, e) {
		return nil, api.ErrForm
	}
	blocks := a.numbered(l, e)
	if slices.ContainsFunc(blocks, isPastEnd) {
		return nil, api.ErrEnd
	}
	return a.perform(t, l, blocks), api.OK
}

// isThread reports whether there is a thread t.
func (a *Arena) isThread(t int) bool { return t >= 0 && t < len(a.clock.Owed()) }

// areCurrent reports whether the indexes still say what the changes of l were prepared for.
func (a *Arena) areCurrent(l []api.Change) bool {
	for _, c := range l {
		switch {
		case changesKey(c):
			k, has := a.table.Get(c.Key)
			if has != c.Had || has && k != c.Old {
				return false
			}
		case c.Kind == api.CallDeq:
			k, has := a.line.Head()
			if !has || k != c.Old {
				return false
			}
		}
	}
	return true
}

// ownBlocks reports whether each change of l that needs a block has one to itself: allocated, of its class, and not yet used.
func (a *Arena) ownBlocks(l []api.Change) bool {
	used := a.used()
	for _, c := range l {
		if !needsBlock(c) {
			continue
		}
		taken, ok := a.pool.Of(c.Line)
		if !ok || taken != c.Class || slices.Contains(used, c.Line) {
			return false
		}
		used = append(used, c.Line)
	}
	return true
}

// numbered returns for each change of l the block that it writes in epoch e, with the numbers that come next: a zero block if it needs none.
func (a *Arena) numbered(l []api.Change, e uint64) []api.Block {
	greatest, ver := a.Numbers()
	blocks := make([]api.Block, len(l))
	for i, c := range l {
		if !needsBlock(c) {
			continue
		}
		id := c.Old.ID
		if isNew(c) {
			greatest++
			id = greatest
		}
		ver++
		blocks[i] = blockOf(c, e, id, ver)
	}
	return blocks
}

// isPastEnd reports whether b has a number that no head may bear.
func isPastEnd(b api.Block) bool { return b.ID > api.MaxNumber || b.Ver > api.MaxNumber }

// perform makes the changes of l, which write these blocks, for thread t.
func (a *Arena) perform(t int, l []api.Change, blocks []api.Block) []bool {
	_, ver := a.Numbers()
	// The first block that is written has this Ver.
	group := ver + 1
	hits := make([]bool, len(l))
	for i, c := range l {
		hits[i] = c.Had && c.Kind != api.CallEnq
		if !needsBlock(c) {
			continue
		}
		a.write(t, c.Line, blocks[i])
		a.link(c, blocks[i])
		a.effects = append(a.effects, effectOf(c, blocks[i], group))
	}
	return hits
}

// write makes the block b at line one that counts: its head is stored, and all its lines are noted by thread t.
func (a *Arena) write(t int, line int, b api.Block) {
	a.assign(b)
	a.storeHead(line, b)
	for i := range class.Span(b.Class) {
		a.clock.Note(t, line+i)
	}
}

// link makes the indexes refer to what the change c, which wrote the block b, has put there, and no longer to what it has replaced or removed.
func (a *Arena) link(c api.Change, b api.Block) {
	switch c.Kind {
	case api.CallPut:
		a.table.Set(linkOf(c.Line, b))
		a.order.Set(linkOf(c.Line, b))
		if c.Had {
			// The new block has the old one's ID and a greater Ver: it is what cancels it.
			a.retire(c.Old.Line, c.Old.Class, b.Epoch, noAnti)
		}
	case api.CallDel:
		a.table.Drop(c.Key)
		a.order.Drop(c.Key)
		a.retire(c.Old.Line, c.Old.Class, b.Epoch, c.Line)
	case api.CallEnq:
		a.line.Push(linkOf(c.Line, b))
	case api.CallDeq:
		a.line.Pop()
		a.retire(c.Old.Line, c.Old.Class, b.Epoch, c.Line)
	}
}
