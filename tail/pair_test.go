package tail_test

import (
	"fmt"
	"reflect"
	"slices"
	"testing"

	"fusee/api"
	"fusee/arena"
	"fusee/block"
	"fusee/point"
)

// modelStep is P18.1 in the chapter's own words, with P17.1's where it refers to them. A block's lines are those of the whole block, and the queue is a list of links.
func modelStep(a *arena.Arena, t int, f api.Frame) api.Frame {
	f = plain(f)
	if a == nil || f.Call.Kind != 4 && f.Call.Kind != 5 {
		return f
	}
	switch isDeq := f.Call.Kind == 5; {
	case f.Phase == 0:
		return modelEnter(a, t, f)
	case f.Phase == 1 && isDeq:
		return modelFind(a, f)
	case f.Phase == 2 && isDeq:
		return modelRead(a, f)
	case f.Phase == 3:
		return modelTake(a, f)
	case f.Phase == 4:
		return modelWrite(a, f)
	case f.Phase == 5:
		return modelPublish(a, t, f)
	case f.Phase == 6:
		a.Readers().Leave(t)
		f.Phase = 7
	}
	return f
}

func modelEnter(a *arena.Arena, t int, f api.Frame) api.Frame {
	if f.Call.Kind == 4 && len(f.Call.Value) > 400 {
		f.Ans.Code, f.Phase = 5, 7
		return f
	}
	if _, e := a.Readers().Enter(t); e != 0 {
		f.Ans.Code, f.Phase = e, 7
		return f
	}
	f.Epoch, f.Phase = a.Clock().Now(), map[int]int{4: 3, 5: 1}[f.Call.Kind]
	return f
}

// modelBack is: if Line is not negative, the pool takes the block back and Line is -1.
func modelBack(a *arena.Arena, f api.Frame) api.Frame {
	if f.Line >= 0 {
		a.Pool().Give(f.Line)
		f.Line = -1
	}
	return f
}

func modelFind(a *arena.Arena, f api.Frame) api.Frame {
	l := a.Line().All()
	if len(l) == 0 {
		f = modelBack(a, f)
		f.Had, f.Old, f.Phase = false, api.Link{}, 6
		return f
	}
	f.Had, f.Old, f.Piece, f.Bytes, f.Phase = true, l[0], 0, nil, 2
	return f
}

// spanOf is the number of lines of a block of the class.
func spanOf(c int) int {
	if c < 0 || c > 3 {
		return 0
	}
	return []int{1, 2, 4, 8}[c]
}

func modelRead(a *arena.Arena, f api.Frame) api.Frame {
	b, _ := a.Dev().Load(f.Old.Line + f.Piece)
	f.Bytes = append(f.Bytes, b...)
	f.Piece++
	if f.Piece != spanOf(f.Old.Class) {
		return f
	}
	x, ok := block.Decode(f.Bytes)
	f.Bytes = nil
	if !ok || x.Kind != 2 || x.ID != f.Old.ID || x.Ver != f.Old.Ver || x.Key != f.Old.Key {
		f = modelBack(a, f)
		f.Ans.Code, f.Phase = 6, 6
		return f
	}
	f.Ans.Value, f.Phase = x.Value, 5
	if f.Line < 0 {
		f.Phase = 3
	}
	return f
}

// classOf is the class that so many bytes need.
func classOf(n int) int {
	return slices.IndexFunc([]int{28, 91, 217, 469}, func(c int) bool { return n <= c })
}

func modelTake(a *arena.Arena, f api.Frame) api.Frame {
	f.Class = 0
	if f.Call.Kind == 4 {
		f.Class = classOf(len(f.Call.Value))
	}
	line, e := a.Pool().Take(f.Class)
	if e != 0 {
		f.Ans.Code, f.Ans.Value, f.Phase = e, "", 6
		return f
	}
	f.Line, f.Piece, f.Phase = line, 0, 4
	return f
}

// lineOf is line k of the block of an enq, as it is ahead of publishing: a draft's head, and then the lines of the whole block.
func lineOf(c api.Call, class, k int) []byte {
	if k == 0 {
		return block.Draft(class)
	}
	lines, _ := block.Encode(api.Block{Class: class, Kind: 2, ID: 1, Ver: 1, Epoch: 1, Value: c.Value})
	return lines[k*64 : k*64+64]
}

func modelWrite(a *arena.Arena, f api.Frame) api.Frame {
	a.Dev().Store(f.Line+f.Piece, 0, lineOf(f.Call, f.Class, f.Piece))
	f.Piece++
	if f.Piece == spanOf(f.Class) {
		f.Piece, f.Phase = 0, 5
	}
	return f
}

func modelPublish(a *arena.Arena, t int, f api.Frame) api.Frame {
	c := f.Call
	_, e := a.Publish(t, f.Epoch, []api.Change{{Kind: c.Kind, Key: c.Key, Value: c.Value, Had: f.Had, Old: f.Old, Line: f.Line, Class: f.Class}})
	switch e {
	case 8:
		f.Epoch = a.Clock().Now()
		if c.Kind == 5 {
			f.Had, f.Old, f.Ans.Value, f.Phase = false, api.Link{}, "", 1
		}
	case 0:
		f.Ans.Found, f.Ans.Epoch, f.Line, f.Phase = f.Had && c.Kind != 4, f.Epoch, -1, 6
	default:
		a.Pool().Give(f.Line)
		f.Ans.Code, f.Ans.Value, f.Line, f.Phase = e, "", -1, 6
	}
	return f
}

// state is all that can be asked of a store but for its device.
type state struct {
	Table, Order, Queue          []api.Link
	Bag                          []api.Entry
	Taken                        []api.Taken
	Inside                       [4]uint64
	Reader, Now, Durable, Closed uint64
	Owed, Left                   []int
	ID, Ver                      uint64
	Effects                      []api.Effect
	Shelf                        string
}

func stateOf(a *arena.Arena) state {
	s := state{
		Table: own(a.Table().All()), Order: own(a.Order().All()), Queue: own(a.Line().All()), Bag: own(a.Bag().All()), Taken: own(a.Pool().Taken()),
		Reader: a.Readers().Now(), Now: a.Clock().Now(), Durable: a.Clock().Durable(), Owed: own(a.Clock().Owed()), Left: own(a.Clock().Left()),
		Effects: own(a.Effects()), Shelf: fmt.Sprintf("%q", a.Shelf()),
	}
	for t := range s.Inside {
		s.Inside[t], _ = a.Readers().Inside(t)
	}
	s.Closed, _ = a.Clock().Closing()
	s.ID, s.Ver = a.Numbers()
	return s
}

// memory is all that can be asked of a device.
type memory struct {
	Volatile, Persistent [258]string
	Way                  []int
	Counts               api.Counts
}

func memoryOf(a *arena.Arena) memory {
	m := memory{Way: own(a.Dev().Way()), Counts: a.Dev().Counts()}
	for line := range a.Dev().Lines() {
		v, _ := a.Dev().Load(line)
		p, _ := a.Dev().Durable(line)
		m.Volatile[line], m.Persistent[line] = string(v), string(p)
	}
	return m
}

// pair is two stores that go through the same: one is stepped by Step, the other by the model. While it is quiet, they are not held against each other.
type pair struct {
	t     *testing.T
	a, m  *arena.Arena
	quiet bool
}

// newPair returns two empty stores.
func newPair(t *testing.T, lines, threads int) *pair {
	t.Helper()
	x := &pair{t: t}
	for _, to := range []**arena.Arena{&x.a, &x.m} {
		a, e := arena.New(lines, threads)
		if a == nil || e != api.OK {
			t.Fatalf("New(%d, %d): %v, %d", lines, threads, a, e)
		}
		*to = a
	}
	return x
}

// same fails the test if the two stores are not the same.
func (x *pair) same(when string) {
	x.t.Helper()
	if x.quiet {
		return
	}
	if got, want := stateOf(x.a), stateOf(x.m); !reflect.DeepEqual(got, want) {
		x.t.Fatalf("%s: the store is %+v, want %+v", when, got, want)
	}
	got, want := memoryOf(x.a), memoryOf(x.m)
	for line := range got.Volatile {
		if got.Volatile[line] != want.Volatile[line] {
			x.t.Fatalf("%s: line %d is %x, want %x", when, line, got.Volatile[line], want.Volatile[line])
		}
	}
	if !reflect.DeepEqual(got, want) {
		x.t.Fatalf("%s: of the device there is %v on the way, %+v, want %v, %+v", when, got.Way, got.Counts, want.Way, want.Counts)
	}
}

// both does the same with both stores.
func (x *pair) both(do func(a *arena.Arena)) {
	do(x.a)
	do(x.m)
}

// isPoint reports whether a call is one of the map's, which stand beside the queue's in these tests.
func isPoint(c api.Call) bool {
	return c.Kind == api.CallGet || c.Kind == api.CallPut || c.Kind == api.CallDel
}

// step steps a frame in both, and fails the test if what comes of it is not the same.
func (x *pair) step(who int, f api.Frame) api.Frame {
	x.t.Helper()
	var got, want api.Frame
	if isPoint(f.Call) {
		got, want = point.Step(x.a, who, f), point.Step(x.m, who, f)
	} else {
		got, want = step(x.t, x.a, who, f), modelStep(x.m, who, f)
	}
	if !same(got, want) {
		x.t.Fatalf("Step(%d, %+v) = %+v, want %+v", who, f, got, want)
	}
	x.same(fmt.Sprintf("behind a step of phase %d", f.Phase))
	return got
}

// becomes steps a frame, and fails the test if it does not become want.
func (x *pair) becomes(who int, f, want api.Frame) api.Frame {
	x.t.Helper()
	got := x.step(who, f)
	if !same(got, want) {
		x.t.Errorf("Step(%d, %+v) = %+v, want %+v", who, f, got, want)
	}
	return got
}

// upTo steps a frame till it is in the phase.
func (x *pair) upTo(phase, who int, f api.Frame) api.Frame {
	x.t.Helper()
	for range 1000 {
		if f.Phase == phase {
			return f
		}
		f = x.step(who, f)
	}
	x.t.Fatalf("no phase %d of %+v", phase, f)
	return f
}

// end steps a frame to its end and tells the phases that it came to.
func (x *pair) end(who int, f api.Frame) (api.Frame, []int) {
	x.t.Helper()
	var phases []int
	for f.Phase != api.PhDone && len(phases) < 1000 {
		f = x.step(who, f)
		phases = append(phases, f.Phase)
	}
	if f.Phase != api.PhDone {
		x.t.Fatalf("no end of %+v", f)
	}
	return f, phases
}

// does has thread 0 go through calls, and fails the test if one is refused. It returns the last one's frame.
func (x *pair) does(l ...api.Call) api.Frame {
	x.t.Helper()
	var f api.Frame
	for _, c := range l {
		if f, _ = x.end(0, begin(c)); f.Ans.Code != api.OK {
			x.t.Fatalf("%+v: %d", c, f.Ans.Code)
		}
	}
	return f
}

// ready returns a frame of the call that thread 1 has brought to its publish, with fields that it has no use for as they come.
func (x *pair) ready(c api.Call) api.Frame {
	x.t.Helper()
	return set(x.upTo(api.PhPublish, 1, begin(c)), func(f *api.Frame) {
		o := in(0, c)
		f.Call.To, f.Call.Group, f.Level, f.At, f.Parts, f.Ans.Pairs, f.Ans.Hits = o.Call.To, o.Call.Group, o.Level, o.At, o.Parts, o.Ans.Pairs, o.Ans.Hits
	})
}

// closes closes the epoch that is being closed, or else the one of now, and moves the readers on.
func closes(a *arena.Arena) {
	a.Clock().Begin()
	for {
		if _, e := a.Clock().Step(a.Dev()); e != api.OK {
			break
		}
	}
	a.Readers().Advance()
}

// round closes an epoch in both, and lets out of limbo what is ready.
func (x *pair) round() {
	x.t.Helper()
	x.both(func(a *arena.Arena) {
		closes(a)
		for {
			if _, e := a.Release(); e != api.OK {
				break
			}
		}
	})
	x.same("behind a round")
}

// first is the link that is the first of the queue.
func (x *pair) first() api.Link {
	x.t.Helper()
	k, ok := x.a.Line().Head()
	if !ok {
		x.t.Fatal("the queue is empty")
	}
	return k
}

// queue fails the test if the queue does not hold these values.
func (x *pair) queue(want ...string) {
	x.t.Helper()
	if got := x.a.Shelf().Queue; !slices.Equal(got, want) || x.a.Line().Len() != len(want) {
		x.t.Errorf("the queue is %q, want %q", got, want)
	}
}

// private fails the test if a block is allocated that is nothing's.
func (x *pair) private() {
	x.t.Helper()
	r := x.a.Rooms(nil)
	if all := len(r.Live) + len(r.Limbo) + len(r.Antis); len(r.Taken) != all {
		x.t.Errorf("%v are allocated, and linked, in limbo or antis are %v, %v, %v", r.Taken, r.Live, r.Limbo, r.Antis)
	}
}

// unchanged returns a function that fails the test if the store is not as it is now.
func (x *pair) unchanged(when string) func() {
	was, device := stateOf(x.a), memoryOf(x.a)
	return func() {
		x.t.Helper()
		if now := stateOf(x.a); !reflect.DeepEqual(now, was) {
			x.t.Errorf("%s: the store is %+v, and was %+v", when, now, was)
		}
		if !reflect.DeepEqual(memoryOf(x.a), device) {
			x.t.Errorf("%s: the device is not as it was", when)
		}
	}
}
