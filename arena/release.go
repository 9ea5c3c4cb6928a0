package arena

import "fusee/api"

const (
	// What the Anti of an entry is that has none.
	noAnti = -1
	// The class of antis.
	antiClass = 0
	// The thread for which a release notes the line that it scrubs.
	releaser = 0
)

// Release frees the first block in limbo that is ready, and returns its entry.
func (a *Arena) Release() (api.Entry, api.Errno) {
	if a == nil {
		return api.Entry{}, api.ErrArg
	}
	x, ok := a.bag.Pop(a.readers, a.clock.Durable())
	if !ok {
		return api.Entry{}, api.ErrIdle
	}
	a.scrub(x.Line, x.Class)
	a.clock.Note(releaser, x.Line)
	a.pool.Give(x.Line)
	if x.Anti != noAnti {
		// Until the scrubbing is durable, a cut might bring back the head that the anti cancels.
		a.retire(x.Anti, antiClass, a.clock.Now(), noAnti)
	}
	return x, api.OK
}

// retire puts a block into limbo that was unlinked in the durable epoch d.
func (a *Arena) retire(line int, c int, d uint64, anti int) {
	// Each entry is an allocated block of its own, so that the bag is never full.
	a.bag.Put(api.Entry{Line: line, Class: c, R: a.readers.Now(), D: d, Anti: anti})
}
