package tail

import (
	"fusee/api"
	"fusee/class"
	"fusee/frame"
)

// enter lets the thread in, if the call is valid.
func (s *step) enter() {
	if s.Call.Kind == api.CallEnq {
		s.Enter(api.PhTake)
	} else {
		s.Enter(api.PhFind)
	}
}

// find looks at the first link of the queue.
func (s *step) find() {
	s.Old, s.Had = s.Arena.Line().Head()
	if !s.Had {
		// It holds a block if there was a value in an earlier try.
		s.giveBack()
		s.Phase = api.PhLeave
		return
	}
	s.Piece, s.Bytes = 0, nil
	s.Phase = api.PhRead
}

// read adds the next line of the block that was found, and with the last one takes the value that the call is going to remove.
func (s *step) read() {
	if !s.Read() {
		return
	}
	b, ok := s.Found(api.KindQueue)
	if !ok {
		s.giveBack()
		s.Fail(api.ErrStale, api.PhLeave)
		return
	}
	s.Ans.Value = b.Value
	s.Phase = api.PhPublish
	if s.Line < 0 {
		s.Phase = api.PhTake
	}
}

// take allocates the block that the call writes.
func (s *step) take() {
	if s.Take(class.Need(len(s.data()))) != api.OK {
		// The value that was read stays in the queue.
		s.Ans.Value = ""
	}
}

// write stores the next line of the block.
func (s *step) write() {
	if s.Write(s.Line, s.Class, s.data()) {
		s.Phase = api.PhPublish
	}
}

// publish makes the change visible, or has the call try again if what it was prepared for is not so any more.
func (s *step) publish() {
	switch e := s.Publish(); e {
	case api.ErrRetry:
		s.retry()
	case api.OK:
		s.Ans.Found = s.Had && s.Call.Kind == api.CallDeq
		s.Ans.Epoch = s.Epoch
		// The block is the store's from here on.
		s.Line = frame.NoLine
		s.Phase = api.PhLeave
	default:
		s.Ans.Value = ""
		s.GiveBack()
		s.Fail(e, api.PhLeave)
	}
}

// retry goes on in the epoch that it is now, with the block that the frame holds: its head does not say yet in which epoch it was written, or what it cancels.
func (s *step) retry() {
	s.Epoch = s.Arena.Clock().Now()
	if s.Call.Kind == api.CallEnq {
		// Whatever the queue holds, a value goes to its end.
		return
	}
	s.Had, s.Old = false, api.Link{}
	s.Ans.Value = ""
	s.Phase = api.PhFind
}

// data returns the data of the block that the call writes: an anti has none.
func (s *step) data() string {
	if s.Call.Kind == api.CallEnq {
		return s.Call.Value
	}
	return ""
}

// giveBack lets the pool take back the blocks that the frame holds.
func (s *step) giveBack() {
held:
	for {
		switch {
		case s.Line < 0:
			break held
		default:
			s.GiveBack()
		}
	}
}
