package point

import (
	"fusee/api"
	"fusee/block"
	"fusee/class"
	"fusee/ideal"
	"fusee/place"
)

// What the Line of a frame is that holds no block.
const noLine = -1

// enter lets the thread in, if the call is valid.
func (s *step) enter() {
	e := ideal.Good(s.Call)
	if e == api.OK {
		_, e = s.arena.Readers().Enter(s.thread)
	}
	if e != api.OK {
		s.fail(e, api.PhDone)
		return
	}
	s.Epoch = s.arena.Clock().Now()
	s.Phase = api.PhFind
}

// find looks at the next link of the key's bucket.
func (s *step) find() {
	x, ok := s.arena.Table().Next(place.Bucket(s.Call.Key), s.Pos, s.Past)
	if ok && x.Key < s.Call.Key {
		s.Pos, s.Past = x.Key, true
		return
	}
	s.Had, s.Old = false, api.Link{}
	if ok && x.Key == s.Call.Key {
		s.Had, s.Old = true, x
	}
	s.decide()
}

// decide goes on from where the search has ended.
func (s *step) decide() {
	switch {
	case s.Call.Kind == api.CallPut, s.Call.Kind == api.CallDel && s.Had:
		s.Phase = api.PhPublish
		if s.Line < 0 {
			s.Phase = api.PhTake
		}
	case s.Call.Kind == api.CallDel:
		// It holds a block if its key was there in an earlier try.
		if s.Line >= 0 {
			s.giveBack()
		}
		s.Phase = api.PhLeave
	case s.Had:
		s.Piece, s.Bytes = 0, nil
		s.Phase = api.PhRead
	default:
		s.Phase = api.PhLeave
	}
}

// take allocates the block that the call writes.
func (s *step) take() {
	s.Class = s.need()
	line, e := s.arena.Pool().Take(s.Class)
	if e != api.OK {
		s.fail(e, api.PhLeave)
		return
	}
	s.Line, s.Piece = line, 0
	s.Phase = api.PhWrite
}

// write stores the next line of the block.
func (s *step) write() {
	switch {
	case s.Piece == 0:
		// A draft, since the numbers of the head are not known ahead of publishing.
		s.arena.Dev().Store(s.Line, 0, block.Draft(s.Class))
	case s.Piece > 0:
		s.arena.Dev().Store(s.Line+s.Piece, 0, furtherLine(s.Call.Key+s.Call.Value, s.Piece))
	}
	s.Piece++
	if s.Piece == class.Span(s.Class) {
		s.Piece = 0
		s.Phase = api.PhPublish
	}
}

// publish makes the change visible, or sends the call back to search anew if what it found is not so any more.
func (s *step) publish() {
	_, e := s.arena.Publish(s.thread, s.Epoch, []api.Change{s.change()})
	switch e {
	case api.ErrRetry:
		s.retry()
	case api.OK:
		s.Ans.Found, s.Ans.Epoch = s.Had, s.Epoch
		// The block is the store's from here on.
		s.Line = noLine
		s.Phase = api.PhLeave
	default:
		s.giveBack()
		s.fail(e, api.PhLeave)
	}
}

// read adds the next line of the block that was found.
func (s *step) read() {
	// A line that is not there has no bytes, and a block with too few of them is not decoded.
	line, _ := s.arena.Dev().Load(s.Old.Line + s.Piece)
	s.Bytes = append(s.Bytes, line...)
	s.Piece++
	if s.Piece == class.Span(s.Old.Class) {
		s.answer()
		s.Phase = api.PhLeave
	}
}

// leave lets the thread out.
func (s *step) leave() {
	s.arena.Readers().Leave(s.thread)
	s.Phase = api.PhDone
}

// fail goes on to the phase with the error e as the answer.
func (s *step) fail(e api.Errno, phase int) {
	s.Ans.Code = e
	s.Phase = phase
}

// giveBack lets the pool take the block back that the frame holds.
func (s *step) giveBack() {
	s.arena.Pool().Give(s.Line)
	s.Line = noLine
}

// retry goes back to the beginning of the search, in the epoch that it is now. The block is kept: its head does not say yet what it replaces.
func (s *step) retry() {
	s.Epoch = s.arena.Clock().Now()
	s.Pos, s.Past = "", false
	s.Had, s.Old = false, api.Link{}
	s.Phase = api.PhFind
}

// answer takes the value from the bytes that were read, if they are the block that was found.
func (s *step) answer() {
	b, ok := block.Decode(s.Bytes)
	if ok && b.Kind == api.KindMap && b.ID == s.Old.ID && b.Ver == s.Old.Ver && b.Key == s.Old.Key {
		s.Ans.Found, s.Ans.Value = true, b.Value
	} else {
		s.Ans.Code = api.ErrStale
	}
	s.Bytes = nil
}

// need returns the class of the block that the call writes.
func (s *step) need() int {
	if s.Call.Kind == api.CallDel {
		// An anti has no data.
		return class.Need(0)
	}
	return class.Need(len(s.Call.Key) + len(s.Call.Value))
}

// change returns what the call publishes.
func (s *step) change() api.Change {
	return api.Change{
		Kind:  s.Call.Kind,
		Key:   s.Call.Key,
		Value: s.Call.Value,
		Had:   s.Had,
		Old:   s.Old,
		Line:  s.Line,
		Class: s.Class,
	}
}

// furtherLine returns line k of a block with these data, where k is greater than 0.
func furtherLine(data string, k int) []byte {
	line := make([]byte, api.LineBytes)
	line[0] = api.TagData
	// So many lines hold more than the data: with a greater number the product might wrap round.
	ahead := min(k-1, len(data))
	from := min(api.HeadData+ahead*api.LineData, len(data))
	copy(line[1:], data[from:])
	return line
}
