// Package frame is what the steps of all calls have in common, whichever layer executes them: the conventions of shared/doc/17-point.md.
package frame

import (
	"slices"

	"fusee/api"
	"fusee/arena"
	"fusee/block"
	"fusee/class"
	"fusee/ideal"
)

// NoLine is what the Line of a frame is that holds no block.
const NoLine = -1

// Step is a frame that is being stepped, for a thread of a store.
type Step struct {
	api.Frame
	Arena  *arena.Arena
	Thread int
}

// Of returns a step of the frame f for thread t, in memory of its own.
func Of(a *arena.Arena, t int, f api.Frame) Step {
	// A new frame has a copy of its call, groups in groups included.
	f.Call = ideal.Begin(f.Call).Call
	f.Bytes = slices.Clone(f.Bytes)
	f.Parts = slices.Clone(f.Parts)
	f.Ans.Pairs = slices.Clone(f.Ans.Pairs)
	f.Ans.Hits = slices.Clone(f.Ans.Hits)
	return Step{Frame: f, Arena: a, Thread: t}
}

// Enter lets the thread in, if the call is valid, and goes on to the phase to.
func (s *Step) Enter(to int) {
	e := ideal.Good(s.Call)
	if e == api.OK {
		_, e = s.Arena.Readers().Enter(s.Thread)
	}
	if e != api.OK {
		s.Fail(e, api.PhDone)
		return
	}
	s.Epoch = s.Arena.Clock().Now()
	s.Phase = to
}

// Leave lets the thread out.
func (s *Step) Leave() {
	s.Arena.Readers().Leave(s.Thread)
	s.Phase = api.PhDone
}

// Fail goes on to the phase to with the error e as the answer.
func (s *Step) Fail(e api.Errno, to int) {
	s.Ans.Code = e
	s.Phase = to
}

// Take allocates the block of class c that the call writes.
func (s *Step) Take(c int) api.Errno {
	s.Class = c
	line, e := s.Arena.Pool().Take(c)
	if e != api.OK {
		s.Fail(e, api.PhLeave)
		return e
	}
	s.Line, s.Piece = line, 0
	s.Phase = api.PhWrite
	return api.OK
}

// Write stores the next line of the block of class c at line, which has these data, and reports whether it was the last one.
func (s *Step) Write(line int, c int, data string) bool {
	switch {
	case s.Piece == 0:
		// A draft, since the numbers of the head are not known ahead of publishing.
		s.Arena.Dev().Store(line, 0, block.Draft(c))
	case s.Piece > 0:
		s.Arena.Dev().Store(line+s.Piece, 0, furtherLine(data, s.Piece))
	}
	s.Piece++
	if s.Piece != class.Span(c) {
		return false
	}
	s.Piece = 0
	return true
}

// Read adds the next line of the block that was found to the bytes, and reports whether it was the last one.
func (s *Step) Read() bool {
	// A line that is not there has no bytes, and a block with too few of them is not decoded.
	line, _ := s.Arena.Dev().Load(s.Old.Line + s.Piece)
	s.Bytes = append(s.Bytes, line...)
	s.Piece++
	return s.Piece == class.Span(s.Old.Class)
}

// Found takes the block from the bytes that were read, if it is of the kind and the one that was found.
func (s *Step) Found(kind int) (api.Block, bool) {
	b, ok := block.Decode(s.Bytes)
	s.Bytes = nil
	if !ok || b.Kind != kind || b.ID != s.Old.ID || b.Ver != s.Old.Ver || b.Key != s.Old.Key {
		return api.Block{}, false
	}
	return b, true
}

// Publish makes the change of a call that has one block visible.
func (s *Step) Publish() api.Errno {
	_, e := s.Arena.Publish(s.Thread, s.Epoch, []api.Change{{
		Kind:  s.Call.Kind,
		Key:   s.Call.Key,
		Value: s.Call.Value,
		Had:   s.Had,
		Old:   s.Old,
		Line:  s.Line,
		Class: s.Class,
	}})
	return e
}

// GiveBack lets the pool take back the block that the frame holds.
func (s *Step) GiveBack() {
	s.Arena.Pool().Give(s.Line)
	s.Line = NoLine
}

// furtherLine returns line k of a block with these data, where k is greater than 0.
func furtherLine(data string, k int) []byte {
	line := make([]byte, api.LineBytes)
	line[0] = api.TagData
	// So many lines hold more than the data: with a greater number the product might wrap round.
	ahead := min(k-1, len(data))
	from := min(api.HeadData+ahead*api.LineData, len(data))
	copy(line[1:], data[from:])
	return line
}
