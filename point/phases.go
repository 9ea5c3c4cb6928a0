package point

import (
	"fusee/api"
	"fusee/class"
	"fusee/frame"
	"fusee/place"
)

// enter lets the thread in, if the call is valid.
func (s *step) enter() { s.Enter(api.PhFind) }

// find looks at the next link of the key's bucket.
func (s *step) find() {
	x, ok := s.Arena.Table().Next(place.Bucket(s.Call.Key), s.Pos, s.Past)
	if ok && x.Key < s.Call.Key {
		s.Pos, s.Past = x.Key, true
		return
	}
	s.Had, s.Old = false, api.Link{}
	if ok && x.Key == s.Call.Key {
		s.Had, s.Old = true, x
	}
	s.decide()
}

// decide goes on from where the search has ended.
func (s *step) decide() {
	switch {
	case s.Call.Kind == api.CallPut, s.Call.Kind == api.CallDel && s.Had:
		s.Phase = api.PhPublish
		if s.Line < 0 {
			s.Phase = api.PhTake
		}
	case s.Call.Kind == api.CallDel:
		// It holds a block if its key was there in an earlier try.
		if s.Line >= 0 {
			s.GiveBack()
		}
		s.Phase = api.PhLeave
	case s.Had:
		s.Piece, s.Bytes = 0, nil
		s.Phase = api.PhRead
	default:
		s.Phase = api.PhLeave
	}
}

// take allocates the block that the call writes.
func (s *step) take() { s.Take(s.need()) }

// write stores the next line of the block.
func (s *step) write() {
	if s.Write(s.Line, s.Class, s.Call.Key+s.Call.Value) {
		s.Phase = api.PhPublish
	}
}

// publish makes the change visible, or sends the call back to search anew if what it found is not so any more.
func (s *step) publish() {
	switch e := s.Publish(); e {
	case api.ErrRetry:
		s.retry()
	case api.OK:
		s.Ans.Found, s.Ans.Epoch = s.Had, s.Epoch
		// The block is the store's from here on.
		s.Line = frame.NoLine
		s.Phase = api.PhLeave
	default:
		s.GiveBack()
		s.Fail(e, api.PhLeave)
	}
}

// read adds the next line of the block that was found, and with the last one answers with its value.
func (s *step) read() {
	if !s.Read() {
		return
	}
	s.Phase = api.PhLeave
	if b, ok := s.Found(api.KindMap); ok {
		s.Ans.Found, s.Ans.Value = true, b.Value
	} else {
		s.Ans.Code = api.ErrStale
	}
}

// retry goes back to the beginning of the search, in the epoch that it is now. The block is kept: its head does not say yet what it replaces.
func (s *step) retry() {
	s.Epoch = s.Arena.Clock().Now()
	s.Pos, s.Past = "", false
	s.Had, s.Old = false, api.Link{}
	s.Phase = api.PhFind
}

// need returns the class of the block that the call writes.
func (s *step) need() int {
	if s.Call.Kind == api.CallDel {
		// An anti has no data.
		return class.Need(0)
	}
	return class.Need(len(s.Call.Key) + len(s.Call.Value))
}
